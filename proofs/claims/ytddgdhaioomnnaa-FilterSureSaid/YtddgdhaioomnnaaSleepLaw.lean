/-
  WHAT THE LAWS OF LAYER 15 MAKE OF THE LAYER'S FUNCTIONS: Ref, Refs, Small; sleepers that came in, opened.
-/
import Derived.Test.YtddgdhaioomnnaaSleepMem
import Derived.Test.YtddgdhaioomnnaaSleepClone
import Derived.Test.YtddgdhaioomnnaaSleepRef2
import Derived.Test.YtddgdhaioomnnaaTermA
import Derived.Test.YtddgdhaioomnnaaTermB
import Derived.Test.YtddgdhaioomnnaaHeapA
import Derived.Test.YtddgdhaioomnnaaMemA
import Derived.Deep.RegionHeld3
namespace Go.Proofs.Ytddgdhaioomnnaa.Sleep
open Go.ChangeShapes Go.WideShapes Go.ChangeAt Go.RowKit Go.Deep Mem
open Heap (Write)

/-- What is returned: the same sleeper, its Term laid anew. -/
def RetRef (w : World) (x : RawS) (e : Ending) (w' : World) : Prop := ∃ B d, e = .returned (.agg (cS { x with B := B, d := d })) ∧ Rd w' 2 B x.m (Term.ops x.T) ∧ (∀ b off, B = some ⟨b, off, none⟩ → w.heap.size ≤ b) ∧ Below w.heap.size w w'
set_option maxRecDepth 100000 in
set_option maxHeartbeats 4000000 in
theorem ref1_c (x : RawS) (w : World) (hi : Inner w x) (hl : Lim1 x) : Calls Try.prog 35 #[.agg (cS x)] w (RetRef w x) := by
  obtain ⟨PQ, hPQ⟩ : ∃ PQ, RetRef w x = PQ := ⟨_, rfl⟩
  have HPQ := Lib.hid hPQ
  rw [hPQ]
  clear hPQ
  obtain ⟨who, mode, til, A, n, c, W, B, m, d, T⟩ := x
  have HT : Hid (Rd w 2 B m (Term.ops T)) := Lib.hid hi.2
  have hm : m ≤ 1000000 := hl.2
  clear hi hl
  simp only [cS]
  obtain ⟨w1, hw1⟩ : ∃ w1, w1 = (w.alloc (.cells #[.int .i64 who, .int .i64 mode, .int .i64 til, .slice A n c, .slice B m d] 36)).alloc (.cells #[.int .i64 0, .int .i64 0, .int .i64 0, .slice none 0 0, .slice none 0 0] 76) := ⟨_, rfl⟩
  have K1 : Hid (Blk w1 w.heap.size 36 #[.int .i64 who, .int .i64 mode, .int .i64 til, .slice A n c, .slice B m d]) := Lib.hid (by rw [hw1]; exact (Blk.new w _ _).alloc _)
  have K2 : Hid (Blk w1 (w.heap.size + 1) 76 #[.int .i64 0, .int .i64 0, .int .i64 0, .slice none 0 0, .slice none 0 0]) := Lib.hid (by
    rw [hw1]; have := Blk.new (w.alloc (.cells #[.int .i64 who, .int .i64 mode, .int .i64 til, .slice A n c, .slice B m d] 36)) 76 #[.int .i64 0, .int .i64 0, .int .i64 0, .slice none 0 0, .slice none 0 0]; simpa only [World.size_alloc] using this)
  have B1 : Hid (Below w.heap.size w w1) := Lib.hid (by rw [hw1]; exact bl_alloc (bl_alloc (Below.refl _ _) _) _)
  have SZ1 : Hid (w1.heap.size = w.heap.size + 2) := Lib.hid (by rw [hw1]; simp only [World.size_alloc])
  have KEEP : Hid (∀ V, Below w1.heap.size w1 V → V.cell? ⟨w.heap.size, 0, none⟩ = some (.int .i64 who) ∧ V.cell? ⟨w.heap.size, 1, none⟩ = some (.int .i64 mode) ∧ V.cell? ⟨w.heap.size, 2, none⟩ = some (.int .i64 til) ∧ V.cell? ⟨w.heap.size, 3, none⟩ = some (.slice A n c) ∧ V.cell? ⟨w.heap.size, 4, none⟩ = some (.slice B m d)) :=
    Lib.hid (fun V h => ⟨(K1.out.below h).cell 0 _ rfl, (K1.out.below h).cell 1 _ rfl, (K1.out.below h).cell 2 _ rfl, (K1.out.below h).cell 3 _ rfl, (K1.out.below h).cell 4 _ rfl⟩)
  have bq : Hid (Below w1.heap.size w1 w1.drew) := Lib.hid (Below.refl _ _).drew
  go_enter Try.func35, Try.ntmps35
  go_wp2_with fail
  rw [← hw1]
  clear hw1
  go_region_held3 (fun w' => w'.cell? ⟨w.heap.size, 0, none⟩ = some (.int .i64 who) ∧ w'.cell? ⟨w.heap.size, 1, none⟩ = some (.int .i64 mode) ∧ w'.cell? ⟨w.heap.size, 2, none⟩ = some (.int .i64 til) ∧ w'.cell? ⟨w.heap.size, 3, none⟩ = some (.slice A n c) ∧ w'.cell? ⟨w.heap.size, 4, none⟩ = some (.slice B m d)) (first | exact KEEP.out _ bq.out | go_keep)
    (first
    | (go_at_call 58
       refine (Term.ref_o T _ _ _ _ ((HT.out.below B1.out).below bq.out) hm).mono ?_
       rintro e wq ⟨v1, rfl, o1⟩
       have O1 := Lib.hid (o1.wide bq.out)
       replace bq := Lib.hid (bl_trans bq.out o1.2)
       obtain ⟨B9, d9, rfl, r9⟩ := o1.form
       have R9 := Lib.hid r9
       have L2 := Lib.hid (K2.out.below bq.out)
       have e0 := L2.out.cell 0 _ rfl
       have e1 := L2.out.cell 1 _ rfl
       have e2 := L2.out.cell 2 _ rfl
       have e3 := L2.out.cell 3 _ rfl
       have e4 := L2.out.cell 4 _ rfl
       have ef := L2.out.frozen
       have ne := World.new_ne wq _ e0
       clear o1 r9))
  all_goals
    go_wp2_with fail
    have P2 := ((((L2.out.set_ 0 (.int .i64 who)).set_ 1 (.int .i64 mode)).set_ 2 (.int .i64 til)).set_ 3 (.slice A n c)).set_ 4 (.slice B9 m d9)
    have g0 := P2.cell 0 _ rfl
    have g1 := P2.cell 1 _ rfl
    have g2 := P2.cell 2 _ rfl
    have g3 := P2.cell 3 _ rfl
    have g4 := P2.cell 4 _ rfl
    clear P2
    have hS : Hid (∀ b off, B9 = some ⟨b, off, none⟩ → w.heap.size + 2 ≤ b) := Lib.hid (fun b off e => by have := O1.out.base b (by rw [e]; rfl); have h := SZ1.out; omega)
    have hne : Hid (∀ b off, B9 = some ⟨b, off, none⟩ → b ≠ w.heap.size + 1) := Lib.hid (fun b off e => by have := hS.out b off e; omega)
    have HB2 := Lib.hid (bl_trans B1.out bq.out)
    refine bodyPost_ret (v := .agg #[.int .i64 who, .int .i64 mode, .int .i64 til, .slice A n c, .slice B9 m d9]) (by simp [results, Try.results35, go_sem, g0, g1, g2, g3, g4]) rfl ?_
    rw [← HPQ.out]
    refine ⟨B9, d9, rfl, ?_, fun b off e => by have := hS.out b off e; omega, ?_⟩
    · exact Rd.set_other (Rd.set_other (Rd.set_other (Rd.set_other (Rd.set_other R9.out hne.out _ _) hne.out _ _) hne.out _ _) hne.out _ _) hne.out _ _
    · exact bl_set (p := ⟨w.heap.size + 1, 4, none⟩) (bl_set (p := ⟨w.heap.size + 1, 3, none⟩) (bl_set (p := ⟨w.heap.size + 1, 2, none⟩) (bl_set (p := ⟨w.heap.size + 1, 1, none⟩) (bl_set (p := ⟨w.heap.size + 1, 0, none⟩) HB2.out (Nat.le_succ _) _) (Nat.le_succ _) _) (Nat.le_succ _) _) (Nat.le_succ _) _) (Nat.le_succ _) _

theorem off_at {w : World} {v v' : Value} {z : RawS} (hi : Inner w z) (ho : Off1 v z) (h : v'.ownBlock = v.ownBlock ∨ v'.ownBlock = some w.heap.size) : Off1 v' z := by
  rcases h with h | h
  · exact ⟨fun b off e hn => by rw [h]; exact ho.1 b off e hn, fun b off e hn => by rw [h]; exact ho.2 b off e hn⟩
  · refine ⟨fun b off e hn => ?_, fun b off e hn => ?_⟩
    · rw [h]; intro e2; injection e2 with e2; have := rd_lt hi.1 (by decide) hn e; omega
    · rw [h]; intro e2; injection e2 with e2; have := rd_lt hi.2 (by decide) hn e; omega
set_option maxRecDepth 100000 in
set_option maxHeartbeats 4000000 in
theorem refs_c (L : List RawS) (A : Option Addr) (n c : Nat) (w : World) (hr : Sls w A n L) (hn : n ≤ 1000000) (hl : Lim L) :
    Calls Try.prog 19 #[.slice A n c] w (RetOP 76 w n (cc L)) := by
  have HR := Lib.hid hr
  have HLim := Lib.hid hl
  have HLen := Lib.hid hr.len
  clear hr hl
  go_enter Try.func19, Try.ntmps19
  go_wp2
  go_loopw [3, 8] (fun v i wr => ∃ (k : Nat) (M : List RawS), k ≤ n ∧ i = .int .i64 k ∧ Hid (Own w wr 76 5 v k (ss M)) ∧ Hid (cc M = (cc L).take k) ∧ Hid (Inners wr M) ∧ Hid (Lim M) ∧ Hid (Off v M)) (fun _ i _ => n - (intOf i).toNat)
  case atStart => exact ⟨0, [], Nat.zero_le _, rfl, Lib.hid (Own.nil_ (Below.refl _ _)), Lib.hid rfl, Lib.hid Inners.nil_, Lib.hid Lim.nil_, Lib.hid (by intro x hx; cases hx)⟩
  case round =>
    obtain ⟨k, M, hk, rfl, HOWN, HCC, HI, HLM, HOFF⟩ := hrel
    generalize wr = w2 at *
    by_cases hlt : k < n
    · obtain ⟨b1, off, x, rfl, hx, c0, c1, c2, c3, c4, hin⟩ := (HR.out.below HOWN.out.2).at_ k hlt
      have hx1 := HLim.out.at_ k x hx
      have HIN := Lib.hid hin
      have HX1 := Lib.hid hx1
      have HAT := Lib.hid (cc_at L k x hx)
      have HOLD := Lib.hid (HR.out.2 x (List.mem_of_getElem? hx))
      have HC := Lib.hid (ref1_c x (w2.alloc (.cells (cS x) 36)) (hin.alloc _) hx1)
      obtain ⟨xw, xm, xt, xA, xn, xc, xW, xB, xk, xd, xT⟩ := x
      simp only [cS] at HC
      clear hx hin hx1
      go_wp2_with fail
      refine HC.out.mono ?_
      rintro e w3 ⟨B3, d3, rfl, hrB, hbB, b3⟩
      have HB3 := Lib.hid (bl_trans (bl_alloc (Below.refl w2.heap.size w2) (.cells #[.int .i64 xw, .int .i64 xm, .int .i64 xt, .slice xA xn xc, .slice xB xk xd] 36)) b3)
      have HRB := Lib.hid hrB
      have HBB : Hid (∀ b off, B3 = some ⟨b, off, none⟩ → w2.heap.size + 1 ≤ b) := Lib.hid (by simpa only [World.size_alloc] using hbB)
      have HO3 := Lib.hid (HOWN.out.below HB3.out)
      have HIY : Hid (Inner w3 (⟨xw, xm, xt, xA, xn, xc, xW, B3, xk, d3, xT⟩ : RawS)) := Lib.hid ⟨HIN.out.1.below HB3.out, hrB⟩
      have HOY : Hid (∀ v : Value, (∀ g, v.ownBlock = some g → w.heap.size ≤ g ∧ g < w2.heap.size) → Off1 v (⟨xw, xm, xt, xA, xn, xc, xW, B3, xk, d3, xT⟩ : RawS)) := Lib.hid (fun v hv => ⟨fun b off e hn' e2 => by
          have h1 := rd_lt HOLD.out.1 (by decide) hn' e
          have h2 := hv b e2
          omega, fun b off e hn' e2 => by
          have h1 := HBB.out b off e
          have h2 := hv b e2
          omega⟩)
      clear hrB hbB b3 HC c0 c1 c2 c3 c4
      simp only [cS]
      obtain ⟨Bv, dv, rfl, -⟩ := HO3.out.form
      have HOV := Lib.hid (HOY.out _ (fun g hg => ⟨HOWN.out.base g hg, HOWN.out.lt g hg⟩))
      go_wp2_with (at_builtin; refine append_at rfl _ _ 50 rfl tRSleeper w _ k _ rfl (HO3.out.alloc _) _ 1 1 [.int .i64 xw, .int .i64 xm, .int .i64 xt, .slice xA xn xc, .slice B3 xk d3] rfl (Rd.builtAt _ 5 1 [.int .i64 xw, .int .i64 xm, .int .i64 xt, .slice xA xn xc, .slice B3 xk d3] _ rfl (by simp)) (sc_one ⟨xw, xm, xt, xA, xn, xc, xW, B3, xk, d3, xT⟩) (by omega) (by omega) ?_; intro v9 w9 o9 g9 at9; have HO9 := Lib.hid o9; have HG9 := Lib.hid g9; have HA9 := Lib.hid at9; clear o9 g9 at9)
      go_roundw
      case rel =>
        refine ⟨k + 1, M ++ [⟨xw, xm, xt, xA, xn, xc, xW, B3, xk, d3, xT⟩], by omega, by go_num, Lib.hid (by rw [ss_app]; exact HO9.out), Lib.hid ?_, Lib.hid ?_, Lib.hid ?_, Lib.hid ?_⟩
        · rw [cc_app, HCC.out, List.take_add_one, HAT.out]; rfl
        · intro z hz
          rcases List.mem_append.1 hz with hz | hz
          · exact Inners.grown (fun z hz => ((HI.out z hz).below HB3.out).alloc _) HOFF.out HG9.out z hz
          · exact Inners.grown (L := [⟨xw, xm, xt, xA, xn, xc, xW, B3, xk, d3, xT⟩]) (fun z hz => by rw [List.mem_singleton] at hz; subst hz; exact HIY.out.alloc _) (fun z hz => by rw [List.mem_singleton] at hz; subst hz; exact HOV.out) HG9.out z hz
        · exact HLM.out.app (Lim.one HX1.out)
        · intro z hz
          rcases List.mem_append.1 hz with hz | hz
          · exact off_at (((HI.out z hz).below HB3.out).alloc _) (HOFF.out z hz) HA9.out
          · rw [List.mem_singleton] at hz; subst hz
            exact off_at (HIY.out.alloc _) HOV.out HA9.out
      case measure => simp [intOf]; omega
    · have HC2 : Hid (cc M = cc L) := Lib.hid (by rw [HCC.out, List.take_of_length_le (by rw [cc_len, HLen.out]; omega)])
      obtain rfl : k = n := by omega
      go_wp2
      go_ret
      exact ⟨_, M, rfl, HOWN.out, HC2.out, HI.out, HLM.out, HOFF.out⟩

def smallB (L : List RawS) : Bool := L.all (fun x => decide (x.n ≤ 40 ∧ x.m ≤ 20)) && decide (L.length ≤ 20)
theorem small_lim (L : List RawS) (h : smallB L = true) : Lim L ∧ L.length ≤ 20 := by
  unfold smallB at h
  rw [Bool.and_eq_true, decide_eq_true_eq, List.all_eq_true] at h
  exact ⟨fun x hx => by have := h.1 x hx; rw [decide_eq_true_eq] at this; exact ⟨by omega, by omega⟩, h.2⟩
/-- What is returned: a number. -/
def RetN (w : World) (v : Int) (e : Ending) (w' : World) : Prop := e = .returned (.int .i64 v) ∧ Below w.heap.size w w'
set_option maxRecDepth 100000 in
theorem small_c (L : List RawS) (A : Option Addr) (n c : Nat) (w : World) (v : Int) (hr : Sls w A n L) (mn : n ≤ 9223372036854775807) (hb : (if smallB L = true then (n : Int) else -1) = v) :
    Calls Try.prog 8 #[.slice A n c] w (RetN w v) := by
  have HL := Lib.hid hr.len
  have HR := Lib.hid hr
  have HV := Lib.hid hb
  clear hr hb
  go_enter Try.func8, Try.ntmps8
  go_wp2
  go_loopw [7] (fun i wr => ∃ k : Nat, k ≤ n ∧ i = .int .i64 k ∧ Hid (Below w.heap.size w wr) ∧ Hid ((L.take k).all (fun x => decide (x.n ≤ 40 ∧ x.m ≤ 20)) = true)) (fun i _ => n - (intOf i).toNat)
  case atStart => exact ⟨0, Nat.zero_le _, rfl, Lib.hid (Below.refl _ _), Lib.hid rfl⟩
  case round =>
    obtain ⟨k, hk, rfl, HB, hall⟩ := hrel
    generalize wr = w1 at *
    by_cases hlt : k < n
    · obtain ⟨b1, off, ⟨xw, xm, xt, xA, xn, xc, xW, xB, xk, xd, xT⟩, rfl, hx, c0, c1, c2, c3, c4, hin⟩ := (HR.out.below HB.out).at_ k hlt
      have hs := Lib.hid (take_all L (fun x => decide (x.n ≤ 40 ∧ x.m ≤ 20)) k _ hx)
      have HX := Lib.hid hx
      clear hx hin
      by_cases h40 : 40 < xn
      · have HF : Hid (v = -1) := Lib.hid (by
          rw [← HV.out]; unfold smallB; rw [all_bad L (fun x => decide (x.n ≤ 40 ∧ x.m ≤ 20)) k _ HX.out (by simp; omega)]; rfl)
        go_wp2
        go_ret
        exact ⟨ret_int HF.out.symm, bl_alloc HB.out _⟩
      · by_cases h20 : 20 < xk
        · have HF : Hid (v = -1) := Lib.hid (by
            rw [← HV.out]; unfold smallB; rw [all_bad L (fun x => decide (x.n ≤ 40 ∧ x.m ≤ 20)) k _ HX.out (by simp; omega)]; rfl)
          go_wp2
          go_ret
          exact ⟨ret_int HF.out.symm, bl_alloc HB.out _⟩
        · go_wp2
          go_roundw
          case rel => exact ⟨k + 1, by omega, by go_num, Lib.hid (bl_alloc HB.out _), Lib.hid (by rw [hs.out, hall.out]; simp; omega)⟩
          case measure => simp [intOf]; omega
    · have HO : Hid (L.all (fun x => decide (x.n ≤ 40 ∧ x.m ≤ 20)) = true) := Lib.hid (by have := hall.out; rwa [List.take_of_length_le (by rw [HL.out]; omega)] at this)
      by_cases h20 : 20 < n
      · have HF : Hid (v = -1) := Lib.hid (by rw [← HV.out]; unfold smallB; rw [HO.out, HL.out, decide_eq_false (by omega)]; rfl)
        go_wp2
        go_ret
        exact ⟨ret_int HF.out.symm, HB.out⟩
      · have HF : Hid (v = (n : Int)) := Lib.hid (by rw [← HV.out]; unfold smallB; rw [HO.out, HL.out, decide_eq_true (by omega)]; rfl)
        go_wp2
        go_ret
        exact ⟨ret_int HF.out.symm, HB.out⟩

set_option maxRecDepth 100000 in
theorem slice_cell {H : Type} {enc : TypeId × Value → H} {P : Program} {W : World} {fuel : Nat} {t e : TypeId} {c0 : Value} {x : DataW H × List MemPlace} (ht : P.underlying t = some (.slice e))
    (hf : DataW.trod enc P W 0 (fun _ => true) true fuel t [c0] = some x) : ∃ A n c, c0 = .slice A n c := by
  rcases open_slice ht hf with ⟨hcs, _⟩ | ⟨a, len, cap, m, n', D, Pl, hcs, _⟩
  · simp at hcs
    exact ⟨_, _, _, hcs⟩
  · simp at hcs
    exact ⟨_, _, _, hcs⟩
/-- What a sleeper that came in keeps. -/
def Good (W : World) (y : RawS) : Prop := Inner W y ∧ y.n ≤ 9223372036854775807 ∧ y.m ≤ 9223372036854775807
set_option maxRecDepth 100000 in
theorem trod_sl {H : Type} {enc : TypeId × Value → H} {W : World} {fuel : Nat} {cs' : List Value} {x : DataW H × List MemPlace} (hl : cs'.length = 5)
    (ht : DataW.trod enc Try.prog W 0 (fun _ => true) true fuel 36 cs' = some x) : ∃ y : RawS, cs' = sc y ∧ Good W y := by
  obtain ⟨xs, n', _, _, _, hxl, hf⟩ := DataW.trod_struct Try.underlying36 ht
  match cs', hl with
  | [c0, c1, c2, c3, c4], _ =>
    have g0 := hf 0 _ rfl
    have g1 := hf 1 _ rfl
    have g2 := hf 2 _ rfl
    have g3 := hf 3 _ rfl
    have g4 := hf 4 _ rfl
    have k3 : Try.prog.cellsOf 3 = 1 := by kernel_rfl
    have k4 : Try.prog.cellsOf 24 = 1 := by kernel_rfl
    have k5 : Try.prog.cellsOf 34 = 1 := by kernel_rfl
    match xs, hxl with
    | [y0, y1, y2, y3, y4], _ =>
      simp [k3, k4, k5] at g0 g1 g2 g3 g4
      obtain ⟨m0, e0, _, wf0⟩ := DataW.trod_int Try.underlying3 g0
      obtain ⟨m1, e1, _, wf1⟩ := DataW.trod_int Try.underlying3 g1
      obtain ⟨m2, e2, _, wf2⟩ := DataW.trod_int Try.underlying3 g2
      obtain ⟨A, n, c, rfl⟩ := slice_cell Try.underlying24 g3
      obtain ⟨B, m, d, rfl⟩ := slice_cell Try.underlying34 g4
      obtain ⟨hnc, hc, lst, hr, _, _⟩ := Heap.open_writes (A := A) (n := n) (c := c) (d := y3.1) (p := y3.2) ⟨_, g3⟩
      obtain ⟨hmd, hd, lst2, hr2, _, _⟩ := Term.open_ops (A := B) (n := m) (c := d) (d := y4.1) (p := y4.2) ⟨_, g4⟩
      simp at e0 e1 e2
      subst e0 e1 e2
      exact ⟨⟨m0, m1, m2, A, n, c, lst, B, m, d, lst2⟩, rfl, ⟨hr, hr2⟩, Nat.le_trans hnc hc, Nat.le_trans hmd hd⟩
set_option maxRecDepth 100000 in
theorem open_sls {H : Type} {enc : TypeId × Value → H} {W : World} {A : Option Addr} {n c : Nat} {d : DataW H} {p : List MemPlace}
    (h : DataW.Trod enc Try.prog W 0 (fun _ => true) true 22 (.slice A n c) d p) :
    n ≤ c ∧ c ≤ 9223372036854775807 ∧ ∃ xs : List RawS, Rd W 5 A n (ss xs) ∧ xs.length = n ∧ ∀ x ∈ xs, Good W x :=
  open_rows Try.underlying22 5 (by kernel_rfl) (by decide) sc sc_len (Good W) (fun _ _ _ hl ht => trod_sl hl ht) h
theorem good_sls {W : World} {A : Option Addr} {n : Nat} {xs : List RawS} (hr : Rd W 5 A n (ss xs)) (hg : ∀ x ∈ xs, Good W x) : Sls W A n xs := ⟨hr, fun x hx => (hg x hx).1⟩
set_option maxRecDepth 100000 in
theorem open_sl {H : Type} {enc : TypeId × Value → H} {W : World} {r : Reach} {base : Nat} {v : Value} {d : DataW H} {p : List MemPlace} (hv : Value.okWide Try.prog W r base 36 v)
    (h : DataW.Trod enc Try.prog W 0 (fun _ => true) true 36 v d p) :
    ∃ x : RawS, v = .agg (cS x) ∧ Good W x := by
  obtain ⟨cs, rfl, hsz⟩ := okWide_struct Try.underlying36 hv
  have k3 : Try.prog.cellsOf 36 = 5 := by kernel_rfl
  obtain ⟨fuel, hf⟩ := h
  obtain ⟨y, e, hy⟩ := trod_sl (cs' := cs.toList) (by rw [Array.length_toList, hsz, k3]) (by simpa [Value.cells] using hf)
  refine ⟨y, ?_, hy⟩
  have : cs = (sc y).toArray := by rw [← e]
  rw [this]; rfl
end Go.Proofs.Ytddgdhaioomnnaa.Sleep
