/-
  WHAT THE TAKER'S CALLS codes AND end RETURN, or that they panic; the deferred call that recovers; what Read returns. No conditions beyond those that each theorem states.
-/
import Derived.Test.YtilfkohckmknkaaShapeCodes
namespace Go.Proofs.Ytilfkohckmknkaa.Shape
open Go.ChangeShapes Go.WideShapes Go.ChangeAt Go.RowKit Mem Go.Proofs.Ytilfkohckmknkaa.Code

set_option maxRecDepth 100000 in
theorem codes_ok (T n : Nat) (l q : List Int) (c : List (List Step)) (w : World) (h : Tk w T ((n : Int) :: l)) (hn : n ≤ 8) (ho : manyT codeT n l = some (c, q)) :
    Calls Try.prog 29 #[.pointer (some ⟨T, 0, none⟩)] w fun e w' => ∃ B d M, e = .returned (.slice B n d) ∧ cc M = c ∧ Codes w' B n M ∧ n ≤ d ∧ LimC M ∧ (∀ b off, B = some ⟨b, off, none⟩ → w.heap.size ≤ b) ∧ NewC w.heap.size M ∧ Tk w' T q ∧ w.grownBy w' (some T) := by
  have HT := Lib.hid h
  have HO := Lib.hid ho
  have hmf : ∀ (fn : Fn) (first cap : Array Value) (w : World), (Instr.makeFunc fn first cap).run Try.prog w = .ok (.func fn first cap) w := fun _ _ _ _ => rfl
  clear h ho
  go_enter Try.func29, Try.ntmps29
  go_wp2_with (first
    | (go_at_call 38; refine (one_ok T (n : Int) _ _ HT.out).mono ?_; rintro e w2 ⟨rfl, ht2, hg2⟩; have HT2 := Lib.hid ht2; have HG2 := Lib.hid hg2; clear ht2 hg2)
    | (go_at_call 39; refine (sevcode_some T n l q c _ HT2.out (by omega) HO.out).mono ?_; rintro e w3 ⟨B, d, M, rfl, hs3, ho3, hin3, hlm3, hnw3, ht3, hg3⟩; have HS3 := Lib.hid hs3; have HRM := Lib.hid (row_room ho3); have HT3 := Lib.hid ht3; have HG3 := Lib.hid (kept_trans HG2.out hg3); have HIN3 := Lib.hid hin3; have HLM3 := Lib.hid hlm3; have HNW3 := Lib.hid hnw3; clear hs3 ho3 ht3 hg3 hin3 hlm3 hnw3))
  go_ret
  exact ⟨B, d, M, rfl, HS3.out, ⟨HRM.out.2.2.2.1, HIN3.out⟩, HRM.out.2.1, HLM3.out, fun b off e => Nat.le_trans HG2.out.size (HRM.out.2.2.2.2 b off e),
    fun x hx => ⟨fun b off e hn => Nat.le_trans HG2.out.size ((HNW3.out x hx).1 b off e hn), (HNW3.out x hx).2.mono HG2.out.size⟩, HT3.out, HG3.out⟩
set_option maxRecDepth 100000 in
theorem codes_bad1 (T n : Nat) (l : List Int) (w : World) (h : Tk w T ((n : Int) :: l)) (hn : n ≤ 8) (ho : manyT codeT n l = none) :
    Calls Try.prog 29 #[.pointer (some ⟨T, 0, none⟩)] w (Pan w T) := by
  have HT := Lib.hid h
  have HO := Lib.hid ho
  have hmf : ∀ (fn : Fn) (first cap : Array Value) (w : World), (Instr.makeFunc fn first cap).run Try.prog w = .ok (.func fn first cap) w := fun _ _ _ _ => rfl
  clear h ho
  go_enter Try.func29, Try.ntmps29
  go_wp2_with (first
    | (go_at_call 38; refine (one_ok T (n : Int) _ _ HT.out).mono ?_; rintro e w2 ⟨rfl, ht2, hg2⟩; have HT2 := Lib.hid ht2; have HG2 := Lib.hid hg2; clear ht2 hg2)
    | (go_at_call 39; refine (sevcode_none T n l _ HT2.out (by omega) HO.out).mono ?_; rintro e w3 ⟨rfl, hg3⟩; have HG3 := Lib.hid (kept_trans HG2.out hg3); clear hg3))
  exact ⟨rfl, rfl, HG3.out⟩
set_option maxRecDepth 100000 in
theorem codes_bad2 (T n : Nat) (l : List Int) (w : World) (h : Tk w T ((n : Int) :: l)) (hn : ¬ n ≤ 8) :
    Calls Try.prog 29 #[.pointer (some ⟨T, 0, none⟩)] w (Pan w T) := by
  have HT := Lib.hid h
  have hn' : (8 : Int) < (n : Int) := by omega
  have hmf : ∀ (fn : Fn) (first cap : Array Value) (w : World), (Instr.makeFunc fn first cap).run Try.prog w = .ok (.func fn first cap) w := fun _ _ _ _ => rfl
  clear h hn
  go_enter Try.func29, Try.ntmps29
  go_wp2_with (go_at_call 38; refine (one_ok T (n : Int) _ _ HT.out).mono ?_; rintro e w2 ⟨rfl, ht2, hg2⟩; have HG2 := Lib.hid hg2; clear ht2 hg2)
  exact ⟨rfl, rfl, HG2.out⟩
set_option maxRecDepth 100000 in
theorem codes_bad0 (T : Nat) (w : World) (h : Tk w T []) :
    Calls Try.prog 29 #[.pointer (some ⟨T, 0, none⟩)] w (Pan w T) := by
  have HT := Lib.hid h
  have hmf : ∀ (fn : Fn) (first cap : Array Value) (w : World), (Instr.makeFunc fn first cap).run Try.prog w = .ok (.func fn first cap) w := fun _ _ _ _ => rfl
  clear h
  go_enter Try.func29, Try.ntmps29
  go_wp2_with (go_at_call 38; refine (one_bad T _ HT.out).mono ?_; rintro e w2 ⟨rfl, hg2⟩; have HG2 := Lib.hid hg2; clear hg2)
  exact ⟨rfl, rfl, HG2.out⟩
theorem codes_some (T : Nat) (l q : List Int) (c : List (List Step)) (w : World) (h : Tk w T l) (ho : codesT l = some (c, q)) :
    Calls Try.prog 29 #[.pointer (some ⟨T, 0, none⟩)] w fun e w' => ∃ B n d M, e = .returned (.slice B n d) ∧ n ≤ 8 ∧ cc M = c ∧ Codes w' B n M ∧ n ≤ d ∧ LimC M ∧ (∀ b off, B = some ⟨b, off, none⟩ → w.heap.size ≤ b) ∧ NewC w.heap.size M ∧ Tk w' T q ∧ w.grownBy w' (some T) := by
  match l, h, ho with
  | z :: r, h, ho =>
    have hz := h.bb.head
    have e3 : ((z.toNat : Nat) : Int) = z := by omega
    replace ho : (if 8 < z then none else manyT codeT z.toNat r) = some (c, q) := ho
    split at ho
    · cases ho
    · exact (codes_ok T z.toNat r q c w (by rw [e3]; exact h) (by omega) ho).mono (fun e w' ⟨B, d, M, h1, h2⟩ => ⟨B, _, d, M, h1, by omega, h2⟩)
theorem codes_none (T : Nat) (l : List Int) (w : World) (h : Tk w T l) (ho : codesT l = none) :
    Calls Try.prog 29 #[.pointer (some ⟨T, 0, none⟩)] w (Pan w T) := by
  match l, h, ho with
  | [], h, _ => exact codes_bad0 T w h
  | z :: r, h, ho =>
    have hz := h.bb.head
    have e3 : ((z.toNat : Nat) : Int) = z := by omega
    replace ho : (if 8 < z then none else manyT codeT z.toNat r) = none := ho
    split at ho
    · exact codes_bad2 T z.toNat r w (by rw [e3]; exact h) (by omega)
    · exact codes_bad1 T z.toNat r w (by rw [e3]; exact h) (by omega) ho
set_option maxRecDepth 100000 in
theorem end_ok (T : Nat) (w : World) (h : Tk w T []) :
    Calls Try.prog 30 #[.pointer (some ⟨T, 0, none⟩)] w fun e w' => e = .returned (.tuple #[]) ∧ w = w' := by
  obtain ⟨A, n, c, hb, hr, hbb, hnc, hn, hc, hT⟩ := h
  have hl := bs_len hr
  obtain rfl : n = 0 := by simpa using hl.symm
  have q0 := hb.cell 0 _ rfl
  clear hb hr hT hbb hl
  go_enter Try.func30, Try.ntmps30
  go_wp2
  exact ⟨rfl, _, results_none rfl _ _ _, rfl, rfl⟩
set_option maxRecDepth 100000 in
theorem end_bad (T : Nat) (A : Option Addr) (n c : Nat) (w : World) (hb : Blk w T 66 #[.slice A n c]) (hn : 0 < n) :
    Calls Try.prog 30 #[.pointer (some ⟨T, 0, none⟩)] w (Pan w T) := by
  have h0 : (0 : Int) < (n : Int) := by omega
  have q0 := hb.cell 0 _ rfl
  clear hb
  go_enter Try.func30, Try.ntmps30
  go_wp2
  exact ⟨rfl, rfl, kept_refl _ _⟩
theorem Tk.some_ {w : World} {T : Nat} {z : Int} {l : List Int} (h : Tk w T (z :: l)) : ∃ A n c, Blk w T 66 #[.slice A n c] ∧ 0 < n := by
  obtain ⟨A, n, c, hb, hr, _⟩ := h
  have hl := bs_len hr
  exact ⟨A, n, c, hb, by rw [List.length_cons] at hl; omega⟩
/-- The deferred call of a frame that panics: it recovers, and sets both results. -/
theorem catch_panicking (p q : Addr) (x y : Value) (u : TypeId) (pv : Value) (older : List PanicEntry) (w : World) (hpq : q.block ≠ p.block) (hc : w.cell? p = some x) (hz : w.frozen? p = false) (hc2 : w.cell? q = some y) (hz2 : w.frozen? q = false) :
    CallsD Try.prog 28 #[.pointer (some p), .pointer (some q)] (.panicking ({ v := .iface u pv, recovered := false } :: older)) w fun e u' w' =>
      e = .returned (.tuple #[]) ∧ u' = .panicking ({ v := .iface u pv, recovered := true } :: older) ∧ w' = (w.setCell p (.slice none 0 0)).setCell q (.int .i64 2) := by
  refine callsD_of_wpS Try.func28 rfl fun c₀ cs hu => ?_
  apply wpS_seq
  apply wpS_region
  simp [wpOpsS, go_sem, recoverD, hu, Try.ntmps28, Exit.thenS]
  refine wpS_cond (t := true) (by simp [Act.eval, Array.replicate]) ?_
  simp only [if_true]
  have hc3 : (w.setCell p (.slice none 0 0)).cell? q = some y := by rw [cell_set_ne (fun e => hpq e.symm)]; exact hc2
  have hz3 : (w.setCell p (.slice none 0 0)).frozen? q = false := by
    obtain ⟨pb, po, pp⟩ := p
    unfold World.frozen? World.setCell at *
    simp only [Array.getElem?_modify]
    rw [if_neg (fun e => hpq e.symm)]
    exact hz2
  apply wpS_region
  simp [wpOpsS, go_sem, hc, hz, hc3, hz3, bodyPostS, results, Try.results28]
theorem catch_idle (p q : Addr) (w : World) :
    CallsD Try.prog 28 #[.pointer (some p), .pointer (some q)] .returning w fun e u' w' => e = .returned (.tuple #[]) ∧ u' = .returning ∧ w' = w := by
  refine callsD_of_wpS Try.func28 rfl fun c₀ cs hu => ?_
  apply wpS_seq
  apply wpS_region
  simp [wpOpsS, go_sem, recoverD, hu, Try.ntmps28, Exit.thenS]
  refine wpS_cond (t := false) (by simp [Act.eval, Array.replicate]) ?_
  simp only [Bool.false_eq_true, if_false]
  refine wpS_of_wp (wp_skip ?_)
  cases c₀
  simp_all [bodyPostS, results, Try.results28]
/-- What Read returns: the codes, or ErrForm. -/
def RetRd (w : World) (r : Option (List (List Step))) (e : Ending) (w' : World) : Prop :=
  ∃ B q d M, e = .returned (.tuple #[.slice B q d, .int .i64 (if r.isSome then 0 else 2)]) ∧ Codes w' B q M ∧ q ≤ 8 ∧ q ≤ d ∧ cc M = r.getD [] ∧ LimC M ∧ Below w.heap.size w w'
theorem Tk.set_nil {w : World} {T g : Nat} (h : Tk w T []) (hg : g ≠ T) (i : Nat) (u : Value) : Tk (w.setCell ⟨g, i, none⟩ u) T [] := by
  obtain ⟨A, n, c, hb, hr, h1, h2, h3, h4, h5⟩ := h
  have hl := bs_len hr
  obtain rfl : n = 0 := by simpa using hl.symm
  exact ⟨A, 0, c, hb.beside hg i u, ⟨rfl, fun h => absurd h (by omega)⟩, h1, h2, h3, h4, fun b off _ h => absurd h (by omega)⟩
theorem codes_set {w : World} {B : Option Addr} {q base g : Nat} {M : List RawC} (h : Codes w B q M) (hB : ∀ b off, B = some ⟨b, off, none⟩ → base ≤ b) (hn : NewC base M) (hg : g < base) (i : Nat) (u : Value) : Codes (w.setCell ⟨g, i, none⟩ u) B q M :=
  ⟨rd_kept h.1 (kept_set w g i u) (fun b off e _ e2 => by have := hB b off e; injection e2 with e2; omega), Inners.kept h.2 hn hg (kept_set w g i u)⟩
/-- Read's world, as soon as the taker is laid. -/
structure Laid (w w3 : World) (b : List Int) : Prop where
  r0 : Blk w3 w.heap.size 22 #[.slice none 0 0]
  r1 : Blk w3 (w.heap.size + 1) 26 #[.int .i64 0]
  tk : Tk w3 (w.heap.size + 1 + 1) b
  size : w3.heap.size = w.heap.size + 3
  below : Below w.heap.size w w3
theorem laid (b : List Int) (A : Option Addr) (n c : Nat) (w : World) (hr : Rd w 1 A n (bs b)) (hb : BB b) (hnc : n ≤ c) (hn : n ≤ 4000000) (hc : c ≤ 9223372036854775807) :
    Laid w (((w.alloc (.cells #[.slice none 0 0] 22)).alloc (.cells #[.int .i64 0] 26)).alloc (.cells #[.slice A n c] 66)) b := by
  have e1 : (w.alloc (.cells #[.slice none 0 0] 22)).heap.size = w.heap.size + 1 := by simp
  have e2 : ((w.alloc (.cells #[.slice none 0 0] 22)).alloc (.cells #[.int .i64 0] 26)).heap.size = w.heap.size + 1 + 1 := by simp
  have b1 : Blk (w.alloc (.cells #[.slice none 0 0] 22)) w.heap.size 22 #[.slice none 0 0] := Blk.new _ _ _
  have b2 : Blk ((w.alloc (.cells #[.slice none 0 0] 22)).alloc (.cells #[.int .i64 0] 26)) (w.heap.size + 1) 26 #[.int .i64 0] := by
    have := Blk.new (w.alloc (.cells #[.slice none 0 0] 22)) 26 #[.int .i64 0]
    rwa [e1] at this
  have b3 : Blk (((w.alloc (.cells #[.slice none 0 0] 22)).alloc (.cells #[.int .i64 0] 26)).alloc (.cells #[.slice A n c] 66)) (w.heap.size + 1 + 1) 66 #[.slice A n c] := by
    have := Blk.new ((w.alloc (.cells #[.slice none 0 0] 22)).alloc (.cells #[.int .i64 0] 26)) 66 #[.slice A n c]
    rwa [e2] at this
  refine ⟨(b1.alloc _).alloc _, b2.alloc _, ⟨A, n, c, b3, ((hr.alloc _).alloc _).alloc _, hb, hnc, hn, hc, fun g off e h0 => ?_⟩, by simp, bl_alloc (bl_alloc (bl_alloc (Below.refl _ _) _) _) _⟩
  have := rd_lt hr (by decide) h0 e
  omega
set_option maxRecDepth 100000 in
set_option maxHeartbeats 1000000 in
theorem read_ok (b : List Int) (L : List (List Step)) (A : Option Addr) (n c : Nat) (w : World) (hr : Rd w 1 A n (bs b)) (hb : BB b) (hnc : n ≤ c) (hn : n ≤ 4000000) (hc : c ≤ 9223372036854775807) (ho : codesT b = some (L, [])) :
    Calls Try.prog 18 #[.slice A n c] w (RetRd w (some L)) := by
  have hmf : ∀ (fn : Fn) (first cap : Array Value) (w : World), (Instr.makeFunc fn first cap).run Try.prog w = .ok (.func fn first cap) w := fun _ _ _ _ => rfl
  have HLD := Lib.hid (laid b A n c w hr hb hnc hn hc)
  have HO := Lib.hid ho
  clear hr hb ho
  go_enter_defers Try.func18, Try.ntmps18
  go_wp2_with fail
  generalize ((w.alloc (.cells #[.slice none 0 0] 22)).alloc (.cells #[.int .i64 0] 26)).alloc (.cells #[.slice A n c] 66) = w3 at *
  refine (codes_some (w.heap.size + 1 + 1) b [] L w3 HLD.out.tk HO.out).mono ?_
  rintro e w4 ⟨B, q, d, M, rfl, hq, hcc, hcd, hqd, hlm, hBb, hnw, ht4, hg4⟩
  have b0 := blk_kept HLD.out.r0 hg4 (by omega)
  have b1 := blk_kept HLD.out.r1 hg4 (by omega)
  have c0 := b0.cell 0 _ rfl
  have c1 := b1.cell 0 _ rfl
  have z0 := b0.frozen 0
  have z1 := b1.frozen 0
  have HT4 := Lib.hid ht4
  have hS := HLD.out.size
  have HW : Hid (Codes (((w4.setCell ⟨w.heap.size, 0, none⟩ (.slice B q d)).setCell ⟨w.heap.size, 0, none⟩ (.slice B q d)).setCell ⟨w.heap.size + 1, 0, none⟩ (.int .i64 0)) B q M) :=
    Lib.hid (codes_set (codes_set (codes_set hcd hBb hnw (by omega) 0 _) hBb hnw (by omega) 0 _) hBb hnw (by omega) 0 _)
  have HBW : Hid (Below w.heap.size w (((w4.setCell ⟨w.heap.size, 0, none⟩ (.slice B q d)).setCell ⟨w.heap.size, 0, none⟩ (.slice B q d)).setCell ⟨w.heap.size + 1, 0, none⟩ (.int .i64 0))) :=
    Lib.hid (bl_set (bl_set (bl_set (kept_to_below HLD.out.below hg4 (by omega)) (Nat.le_refl _) _) (Nat.le_refl _) _) (by show w.heap.size ≤ w.heap.size + 1; omega) _)
  have HE0 : Hid (Blk (((w4.setCell ⟨w.heap.size, 0, none⟩ (.slice B q d)).setCell ⟨w.heap.size, 0, none⟩ (.slice B q d)).setCell ⟨w.heap.size + 1, 0, none⟩ (.int .i64 0)) w.heap.size 22 #[.slice B q d]) :=
    Lib.hid (((b0.set_ 0 _).set_ 0 _).beside (by omega) 0 _)
  have HE1 : Hid (Blk (((w4.setCell ⟨w.heap.size, 0, none⟩ (.slice B q d)).setCell ⟨w.heap.size, 0, none⟩ (.slice B q d)).setCell ⟨w.heap.size + 1, 0, none⟩ (.int .i64 0)) (w.heap.size + 1) 26 #[.int .i64 0]) :=
    Lib.hid (((b1.beside (by omega) 0 _).beside (by omega) 0 _).set_ 0 _)
  have HX := Lib.hid (And.intro hcc hlm)
  clear b0 b1 hcc hcd hlm hBb hnw ht4 hg4 hS
  go_wp2_with (go_at_call 30; refine (end_ok (w.heap.size + 1 + 1) _ (HT4.out.set_nil (by omega) 0 _)).mono ?_; rintro e w5 ⟨rfl, rfl⟩)
  have q0 := HE0.out.cell 0 _ rfl
  have q1 := HE1.out.cell 0 _ rfl
  generalize (((w4.setCell ⟨w.heap.size, 0, none⟩ (.slice B q d)).setCell ⟨w.heap.size, 0, none⟩ (.slice B q d)).setCell ⟨w.heap.size + 1, 0, none⟩ (.int .i64 0)) = w6 at *
  refine leaves_cons (f := 28) (args := #[.pointer (some ⟨w.heap.size, 0, none⟩), .pointer (some ⟨w.heap.size + 1, 0, none⟩)]) (by simp) (by simp [go_sem]) ?_
  refine (catch_idle ⟨w.heap.size, 0, none⟩ ⟨w.heap.size + 1, 0, none⟩ _).mono ?_
  rintro e u' w'' ⟨rfl, rfl, rfl⟩
  refine ⟨.tuple #[.slice B q d, .int .i64 0], by simp [results, Try.results18, go_sem, q0, q1], ?_⟩
  exact ⟨B, q, d, M, rfl, HW.out, hq, hqd, HX.out.1, HX.out.2, HBW.out⟩
set_option maxRecDepth 100000 in
set_option maxHeartbeats 1000000 in
theorem read_bad1 (b : List Int) (A : Option Addr) (n c : Nat) (w : World) (hr : Rd w 1 A n (bs b)) (hb : BB b) (hnc : n ≤ c) (hn : n ≤ 4000000) (hc : c ≤ 9223372036854775807) (ho : codesT b = none) :
    Calls Try.prog 18 #[.slice A n c] w (RetRd w none) := by
  have hmf : ∀ (fn : Fn) (first cap : Array Value) (w : World), (Instr.makeFunc fn first cap).run Try.prog w = .ok (.func fn first cap) w := fun _ _ _ _ => rfl
  have HLD := Lib.hid (laid b A n c w hr hb hnc hn hc)
  have HO := Lib.hid ho
  clear hr hb ho
  go_enter_defers Try.func18, Try.ntmps18
  go_wp2_with fail
  generalize ((w.alloc (.cells #[.slice none 0 0] 22)).alloc (.cells #[.int .i64 0] 26)).alloc (.cells #[.slice A n c] 66) = w3 at *
  refine (codes_none (w.heap.size + 1 + 1) b w3 HLD.out.tk HO.out).mono ?_
  rintro e w4 ⟨rfl, hg4⟩
  have b0 := blk_kept HLD.out.r0 hg4 (by omega)
  have b1 := blk_kept HLD.out.r1 hg4 (by omega)
  have HBW : Hid (Below w.heap.size w ((w4.setCell ⟨w.heap.size, 0, none⟩ (.slice none 0 0)).setCell ⟨w.heap.size + 1, 0, none⟩ (.int .i64 2))) :=
    Lib.hid (bl_set (bl_set (kept_to_below HLD.out.below hg4 (by omega)) (Nat.le_refl _) _) (by show w.heap.size ≤ w.heap.size + 1; omega) _)
  have q0 := ((b0.set_ 0 (.slice none 0 0)).beside (g' := w.heap.size + 1) (by omega) 0 (.int .i64 2)).cell 0 _ rfl
  have q1 := ((b1.beside (g' := w.heap.size) (by omega) 0 (.slice none 0 0)).set_ 0 (.int .i64 2)).cell 0 _ rfl
  go_wp2
  refine leaves_cons (f := 28) (args := #[.pointer (some ⟨w.heap.size, 0, none⟩), .pointer (some ⟨w.heap.size + 1, 0, none⟩)]) (by simp) (by simp [go_sem]) ?_
  refine (catch_panicking ⟨w.heap.size, 0, none⟩ ⟨w.heap.size + 1, 0, none⟩ _ _ _ _ [] _ (by simp) (b0.cell 0 _ rfl) (b0.frozen 0) (b1.cell 0 _ rfl) (b1.frozen 0)).mono ?_
  rintro e u' w'' ⟨rfl, rfl, rfl⟩
  refine ⟨.tuple #[.slice none 0 0, .int .i64 2], by simp [results, Try.results18, go_sem, q0, q1], ?_⟩
  exact ⟨none, 0, 0, [], rfl, Codes.none_, by omega, Nat.le_refl _, rfl, LimC.nil_, HBW.out⟩
set_option maxRecDepth 100000 in
set_option maxHeartbeats 1000000 in
theorem read_bad2 (b : List Int) (L : List (List Step)) (z : Int) (l : List Int) (A : Option Addr) (n c : Nat) (w : World) (hr : Rd w 1 A n (bs b)) (hb : BB b) (hnc : n ≤ c) (hn : n ≤ 4000000) (hc : c ≤ 9223372036854775807) (ho : codesT b = some (L, z :: l)) :
    Calls Try.prog 18 #[.slice A n c] w (RetRd w none) := by
  have hmf : ∀ (fn : Fn) (first cap : Array Value) (w : World), (Instr.makeFunc fn first cap).run Try.prog w = .ok (.func fn first cap) w := fun _ _ _ _ => rfl
  have HLD := Lib.hid (laid b A n c w hr hb hnc hn hc)
  have HO := Lib.hid ho
  clear hr hb ho
  go_enter_defers Try.func18, Try.ntmps18
  go_wp2_with fail
  generalize ((w.alloc (.cells #[.slice none 0 0] 22)).alloc (.cells #[.int .i64 0] 26)).alloc (.cells #[.slice A n c] 66) = w3 at *
  refine (codes_some (w.heap.size + 1 + 1) b (z :: l) L w3 HLD.out.tk HO.out).mono ?_
  rintro e w4 ⟨B, q, d, M, rfl, hq, hcc, hcd, hqd, hlm, hBb, hnw, ht4, hg4⟩
  have b0 := blk_kept HLD.out.r0 hg4 (by omega)
  have b1 := blk_kept HLD.out.r1 hg4 (by omega)
  have c0 := b0.cell 0 _ rfl
  have z0 := b0.frozen 0
  obtain ⟨A5, n5, c5, hbk, hn5⟩ := ht4.some_
  have HBK : Hid (Blk (w4.setCell ⟨w.heap.size, 0, none⟩ (.slice B q d)) (w.heap.size + 1 + 1) 66 #[.slice A5 n5 c5]) := Lib.hid (hbk.beside (by omega) 0 _)
  have B5 := Lib.hid (b0.set_ 0 (.slice B q d))
  have B6 := Lib.hid (b1.beside (g' := w.heap.size) (by omega) 0 (.slice B q d))
  have HB4 := Lib.hid (bl_set (kept_to_below HLD.out.below hg4 (by omega)) (p := ⟨w.heap.size, 0, none⟩) (Nat.le_refl _) (.slice B q d))
  clear b0 b1 hcc hcd hlm hBb hnw ht4 hg4 hbk
  go_wp2_with (go_at_call 30; refine (end_bad (w.heap.size + 1 + 1) A5 n5 c5 _ HBK.out hn5).mono ?_; rintro e w5 ⟨rfl, hg5⟩; have HG5 := Lib.hid hg5; clear hg5)
  have b2 := blk_kept B5.out HG5.out (by omega)
  have b3 := blk_kept B6.out HG5.out (by omega)
  have HBW : Hid (Below w.heap.size w ((w5.setCell ⟨w.heap.size, 0, none⟩ (.slice none 0 0)).setCell ⟨w.heap.size + 1, 0, none⟩ (.int .i64 2))) :=
    Lib.hid (bl_set (bl_set (kept_to_below HB4.out HG5.out (by omega)) (Nat.le_refl _) _) (by show w.heap.size ≤ w.heap.size + 1; omega) _)
  have q0 := ((b2.set_ 0 (.slice none 0 0)).beside (g' := w.heap.size + 1) (by omega) 0 (.int .i64 2)).cell 0 _ rfl
  have q1 := ((b3.beside (g' := w.heap.size) (by omega) 0 (.slice none 0 0)).set_ 0 (.int .i64 2)).cell 0 _ rfl
  refine leaves_cons (f := 28) (args := #[.pointer (some ⟨w.heap.size, 0, none⟩), .pointer (some ⟨w.heap.size + 1, 0, none⟩)]) (by simp) (by simp [go_sem]) ?_
  refine (catch_panicking ⟨w.heap.size, 0, none⟩ ⟨w.heap.size + 1, 0, none⟩ _ _ _ _ [] _ (by simp) (b2.cell 0 _ rfl) (b2.frozen 0) (b3.cell 0 _ rfl) (b3.frozen 0)).mono ?_
  rintro e u' w'' ⟨rfl, rfl, rfl⟩
  refine ⟨.tuple #[.slice none 0 0, .int .i64 2], by simp [results, Try.results18, go_sem, q0, q1], ?_⟩
  exact ⟨none, 0, 0, [], rfl, Codes.none_, by omega, Nat.le_refl _, rfl, LimC.nil_, HBW.out⟩
/-- Read returns the codes of which the bytes are those, or ErrForm. -/
theorem read_c (b : List Int) (A : Option Addr) (n c : Nat) (w : World) (r : Option (List (List Step))) (hr : Rd w 1 A n (bs b)) (hb : BB b) (hnc : n ≤ c) (hn : n ≤ 4000000) (hc : c ≤ 9223372036854775807) (ho : readS b = r) :
    Calls Try.prog 18 #[.slice A n c] w (RetRd w r) := by
  rw [← ho, ← read_take b hb]
  unfold readT
  cases e : codesT b with
  | none => exact read_bad1 b A n c w hr hb hnc hn hc e
  | some p =>
    obtain ⟨L, q⟩ := p
    cases q with
    | nil => exact read_ok b L A n c w hr hb hnc hn hc e
    | cons z l => exact read_bad2 b L z l A n c w hr hb hnc hn hc e
end Go.Proofs.Ytilfkohckmknkaa.Shape
