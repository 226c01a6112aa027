/-
  WHAT THE FUNCTIONS OF THE LAYER sleep RETURN, AS THEY ARE WRITTEN: watchesOne (with the library's ContainsFunc and Contains), Of.
-/
import Derived.Test.YtddgdhaioomnnaaGreatSleepCode3
namespace Go.Proofs.YtddgdhaioomnnaaGreat.Sleep
open Go.ChangeShapes Go.WideShapes Go.ChangeAt Go.RowKit Mem
open Heap (Write)

set_option maxRecDepth 100000 in
theorem index_c (cs : List Int) (z : Int) (D : Option Addr) (m d : Nat) (w : World) (b : Bool) (hr : Rd w 1 D m (zs cs)) (hm : m ≤ 1000000) (hb : cs.any (fun c => c == z) = b) :
    Calls Tryz.prog 93 #[.slice D m d, .int .i64 z] w (RetX w b) := by
  have HL := Lib.hid (zs_len hr)
  have HR := Lib.hid hr
  have HB0 := Lib.hid hb
  clear hr hb
  go_enter Tryz.func93, Tryz.ntmps93
  go_wp2
  go_loopw [8] (fun i wr => ∃ k : Nat, k ≤ m ∧ i = .int .i64 k ∧ Hid (Below w.heap.size w wr) ∧ Hid ((cs.take k).any (fun c => c == z) = false)) (fun i _ => m - (intOf i).toNat)
  case atStart => exact ⟨0, Nat.zero_le _, rfl, Lib.hid (Below.refl _ _), Lib.hid rfl⟩
  case round =>
    obtain ⟨k, hk, rfl, HB, hall⟩ := hrel
    generalize wr = w1 at *
    by_cases hlt : k < m
    · obtain ⟨b1, off, y, rfl, hx, c0⟩ := at_z (HR.out.below HB.out) k hlt
      have HS := Lib.hid (take_any cs (fun c => c == z) k _ hx)
      have HX := Lib.hid hx
      clear hx
      by_cases h3 : z = y
      · subst h3
        have HF : Hid (b = true) := Lib.hid (by rw [← HB0.out]; exact any_good cs _ k _ HX.out (by simp))
        go_wp2
        go_ret
        exact ⟨(k : Int), rfl, by rw [HF.out]; simp, HB.out⟩
      · have H3 : Hid ((y == z) = false) := Lib.hid (by simpa using fun e => h3 e.symm)
        go_wp2
        go_roundw
        case rel => exact ⟨k + 1, by omega, by go_num, HB, Lib.hid (by rw [HS.out, hall.out]; exact H3.out)⟩
        case measure => simp [intOf]; omega
    · obtain rfl : k = m := by omega
      have HF : Hid (b = false) := Lib.hid (by
        rw [← HB0.out]; have h5 := hall.out; rwa [List.take_of_length_le (by rw [HL.out]; exact Nat.le_refl _)] at h5)
      go_wp2
      go_ret
      exact ⟨-1, rfl, by rw [HF.out]; decide, HB.out⟩
set_option maxRecDepth 100000 in
theorem contains_c (cs : List Int) (z : Int) (D : Option Addr) (m d : Nat) (w : World) (b : Bool) (hr : Rd w 1 D m (zs cs)) (hm : m ≤ 1000000) (hb : cs.any (fun c => c == z) = b) :
    Calls Tryz.prog 79 #[.slice D m d, .int .i64 z] w (RetB w b) := by
  have HI := Lib.hid (index_c cs z D m d w b hr hm hb)
  clear hr hb
  go_enter Tryz.func79, Tryz.ntmps79
  go_wp2_with fail
  refine HI.out.mono ?_
  rintro e w2 ⟨p, rfl, h2, b2⟩
  have H2 := Lib.hid h2
  clear h2
  go_wp2
  go_ret
  exact ⟨ret_bool (by rw [← H2.out]), b2⟩
set_option maxRecDepth 100000 in
theorem watch_f (cl vl : Int) (cs : List Int) (g : Nat) (D : Option Addr) (m d : Nat) (w : World) (b : Bool) (hg : w.cell? ⟨g, 0, none⟩ = some (.slice D m d)) (hr : Rd w 1 D m (zs cs)) (hm : m ≤ 1000000) (hb : cs.any (fun c => c == cl) = b) :
    Calls Tryz.prog 78 (#[.agg #[.int .i64 cl, .int .i64 vl]] ++ #[.pointer (some ⟨g, 0, none⟩)]) w (RetB w b) := by
  show Calls Tryz.prog 78 #[.agg #[.int .i64 cl, .int .i64 vl], .pointer (some ⟨g, 0, none⟩)] w (RetB w b)
  have HC := Lib.hid (contains_c cs cl D m d (w.alloc (.cells #[.int .i64 cl, .int .i64 vl] 55)) b (hr.alloc _) hm hb)
  have q0 : (w.alloc (.cells #[.int .i64 cl, .int .i64 vl] 55)).cell? ⟨g, 0, none⟩ = some (.slice D m d) := ((bl_alloc (Below.refl w.heap.size w) _).cell (cell_lt hg)).trans hg
  clear hr hb
  go_enter Tryz.func78, Tryz.ntmps78
  go_wp2_with fail
  refine HC.out.mono ?_
  rintro e w2 ⟨rfl, b2⟩
  go_wp2
  go_ret
  exact ⟨rfl, bl_trans (bl_alloc (Below.refl _ _) _) b2⟩
set_option maxRecDepth 100000 in
theorem indexw_c (W : List Write) (cs : List Int) (g : Nat) (A D : Option Addr) (n c m d : Nat) (w : World) (b : Bool) (hw : Rd w 2 A n (Heap.ws W)) (hn : n ≤ 1000000) (hg : w.cell? ⟨g, 0, none⟩ = some (.slice D m d)) (hr : Rd w 1 D m (zs cs)) (hm : m ≤ 1000000) (hb : seesB W cs = b) :
    Calls Tryz.prog 92 #[.slice A n c, .func (.func 78) #[] #[.pointer (some ⟨g, 0, none⟩)]] w (RetX w b) := by
  have HL : Hid (W.length = n) := Lib.hid (by have := hw.1; rw [Heap.ws_len] at this; omega)
  have HW := Lib.hid hw
  have HR := Lib.hid hr
  have HG := Lib.hid hg
  have HB0 := Lib.hid hb
  clear hr hb hw hg
  go_enter Tryz.func92, Tryz.ntmps92
  go_wp2
  go_loopw [8] (fun i wr => ∃ k : Nat, k ≤ n ∧ i = .int .i64 k ∧ Hid (Below w.heap.size w wr) ∧ Hid (seesB (W.take k) cs = false)) (fun i _ => n - (intOf i).toNat)
  case atStart => exact ⟨0, Nat.zero_le _, rfl, Lib.hid (Below.refl _ _), Lib.hid rfl⟩
  case round =>
    obtain ⟨k, hk, rfl, HB, hall⟩ := hrel
    generalize wr = w1 at *
    by_cases hlt : k < n
    · obtain ⟨b1, off, ⟨cl, vl⟩, rfl, hx, c0, c1⟩ := Heap.at_write (HW.out.below HB.out) k hlt
      have HS := Lib.hid (take_any W (fun x => cs.any (fun c => c == x.cell)) k _ hx)
      have HX := Lib.hid hx
      clear hx
      obtain ⟨f, hf⟩ : ∃ f, cs.any (fun c => c == cl) = f := ⟨_, rfl⟩
      have HF0 := Lib.hid hf
      have HC := Lib.hid (watch_f cl vl cs g D m d w1 f ((HB.out.cell (cell_lt HG.out)).trans HG.out) (HR.out.below HB.out) hm hf)
      clear hf
      cases f
      · go_wp2_with fail
        refine HC.out.mono ?_
        rintro e w2 ⟨rfl, b2⟩
        go_wp2
        go_roundw
        case rel => exact ⟨k + 1, by omega, by go_num, Lib.hid (bl_trans HB.out b2), Lib.hid (by have := HS.out; unfold seesB at hall ⊢; rw [this, hall.out]; exact HF0.out)⟩
        case measure => simp [intOf]; omega
      · have HF : Hid (b = true) := Lib.hid (by rw [← HB0.out]; exact any_good W _ k _ HX.out HF0.out)
        go_wp2_with fail
        refine HC.out.mono ?_
        rintro e w2 ⟨rfl, b2⟩
        go_wp2
        go_ret
        exact ⟨(k : Int), rfl, by rw [HF.out]; simp, bl_trans HB.out b2⟩
    · obtain rfl : k = n := by omega
      have HF : Hid (b = false) := Lib.hid (by
        rw [← HB0.out]; have h5 := hall.out; rwa [List.take_of_length_le (by rw [HL.out]; exact Nat.le_refl _)] at h5)
      go_wp2
      go_ret
      exact ⟨-1, rfl, by rw [HF.out]; decide, HB.out⟩
set_option maxRecDepth 100000 in
theorem hasw_c (W : List Write) (cs : List Int) (g : Nat) (A D : Option Addr) (n c m d : Nat) (w : World) (b : Bool) (hw : Rd w 2 A n (Heap.ws W)) (hn : n ≤ 1000000) (hg : w.cell? ⟨g, 0, none⟩ = some (.slice D m d)) (hr : Rd w 1 D m (zs cs)) (hm : m ≤ 1000000) (hb : seesB W cs = b) :
    Calls Tryz.prog 77 #[.slice A n c, .func (.func 78) #[] #[.pointer (some ⟨g, 0, none⟩)]] w (RetB w b) := by
  have HI := Lib.hid (indexw_c W cs g A D n c m d w b hw hn hg hr hm hb)
  clear hr hb hw hg
  go_enter Tryz.func77, Tryz.ntmps77
  go_wp2_with fail
  refine HI.out.mono ?_
  rintro e w2 ⟨p, rfl, h2, b2⟩
  have H2 := Lib.hid h2
  clear h2
  go_wp2
  go_ret
  exact ⟨ret_bool (by rw [← H2.out]), b2⟩
set_option maxRecDepth 100000 in
theorem sees_c (x : RawS) (cs : List Int) (D : Option Addr) (m d : Nat) (w : World) (b : Bool) (hi : Inner w x) (hl : Lim1 x) (hr : Rd w 1 D m (zs cs)) (hm : m ≤ 1000000) (hb : seesB x.W cs = b) :
    Calls Tryz.prog 54 #[.agg (cS x), .slice D m d] w (RetB w b) := by
  obtain ⟨xw, xm, xt, xA, xn, xc, xW, xB, xk, xd, xT⟩ := x
  obtain ⟨w1, hw1⟩ : ∃ w1, w1 = (w.alloc (.cells #[.int .i64 xw, .int .i64 xm, .int .i64 xt, .slice xA xn xc, .slice xB xk xd] 26)).alloc (.cells #[.slice D m d] 32) := ⟨_, rfl⟩
  have HB1 : Hid (Below w.heap.size w w1) := Lib.hid (by rw [hw1]; exact bl_alloc (bl_alloc (Below.refl _ _) _) _)
  have K2 : Hid (Blk w1 (w.heap.size + 1) 32 #[.slice D m d]) := Lib.hid (by
    rw [hw1]; have := Blk.new (w.alloc (.cells #[.int .i64 xw, .int .i64 xm, .int .i64 xt, .slice xA xn xc, .slice xB xk xd] 26)) 32 #[.slice D m d]; simpa only [World.size_alloc] using this)
  have HC := Lib.hid (hasw_c xW cs (w.heap.size + 1) xA D xn xc m d w1 b (hi.1.below HB1.out) hl.1 (K2.out.cell 0 _ rfl) (hr.below HB1.out) hm hb)
  clear hi hl hr hb
  simp only [cS]
  go_enter Tryz.func54, Tryz.ntmps54
  go_wp2_with fail
  rw [← hw1]
  clear hw1
  refine HC.out.mono ?_
  rintro e w2 ⟨rfl, b2⟩
  go_wp2
  go_ret
  exact ⟨rfl, bl_trans HB1.out b2⟩

theorem take_filter_map (L : List Sl) (q : Sl → Bool) (k : Nat) (x : Sl) (hx : L[k]? = some x) : ((L.take (k + 1)).filter q).map Sl.who = ((L.take k).filter q).map Sl.who ++ (if q x = true then [x.who] else []) := by
  rw [List.take_add_one, hx, List.filter_append, List.map_append]
  by_cases h : q x = true
  · simp [h]
  · simp [h]
set_option maxRecDepth 100000 in
set_option maxHeartbeats 4000000 in
theorem of_c (L : List RawS) (cs : List Int) (A D : Option Addr) (n c m d : Nat) (w : World) (r : List Int) (q : Nat) (hr : Sls w A n L) (hn : n ≤ 1000000) (hl : Lim L) (hw : Rd w 1 D m (zs cs)) (hm : m ≤ 1000000) (ha : ofS (cc L) cs = r) (hq : r.length = q) :
    Calls Tryz.prog 33 #[.slice A n c, .slice D m d] w (RetO w 3 1 q (zs r)) := by
  have HR := Lib.hid hr
  have HLim := Lib.hid hl
  have HLen := Lib.hid hr.len
  have HW := Lib.hid hw
  have HA := Lib.hid ha
  have HQ := Lib.hid hq
  clear hr hl hw ha hq
  obtain ⟨b1, h1⟩ : ∃ b, rightB (cc L) = b := ⟨_, rfl⟩
  have H1 := Lib.hid h1
  have HRC := Lib.hid (right_c L A n c w b1 HR.out hn HLim.out h1)
  clear h1
  go_enter Tryz.func33, Tryz.ntmps33
  go_wp2_with fail
  refine HRC.out.mono ?_
  rintro e w1 ⟨rfl, b2⟩
  have HB1 := Lib.hid b2
  clear b2 HRC
  cases b1
  · have HF : Hid (r = []) := Lib.hid (by rw [← HA.out]; unfold ofS; rw [H1.out]; rfl)
    have HN : Hid (q = 0) := Lib.hid (by rw [← HQ.out, HF.out]; rfl)
    obtain rfl := HN.out
    go_wp2
    go_ret
    exact ⟨_, rfl, by rw [HF.out]; exact Own.nil_ HB1.out⟩
  · have HF : Hid (r = ((cc L).filter (fun s => seesB s.watch cs)).map Sl.who) := Lib.hid (by rw [← HA.out]; unfold ofS; rw [if_pos H1.out])
    go_wp2_with fail
    go_loopw [5, 13] (fun v i wr => ∃ (k j : Nat), k ≤ n ∧ j ≤ k ∧ i = .int .i64 k ∧ Hid ((((cc L).take k).filter (fun s => seesB s.watch cs)).length = j) ∧ Own w1 wr 3 1 v j (zs ((((cc L).take k).filter (fun s => seesB s.watch cs)).map Sl.who))) (fun _ i _ => n - (intOf i).toNat)
    case atStart => exact ⟨0, 0, Nat.zero_le _, Nat.le_refl _, rfl, Lib.hid rfl, Own.nil_ (Below.refl _ _)⟩
    case round =>
      obtain ⟨k, j, hk, hjk, rfl, HJ, hown⟩ := hrel
      generalize wr = w2 at *
      by_cases hlt : k < n
      · have HB2 := Lib.hid (bl_trans HB1.out hown.2)
        obtain ⟨b1, off, x, rfl, hx, c0, c1, c2, c3, c4, hin⟩ := (HR.out.below HB2.out).at_ k hlt
        have HT := Lib.hid (take_filter_map (cc L) (fun s => seesB s.watch cs) k _ (cc_at L k _ hx))
        obtain ⟨f, hf⟩ : ∃ f, seesB x.W cs = f := ⟨_, rfl⟩
        have HF0 := Lib.hid hf
        have HC := Lib.hid (sees_c x cs D m d (w2.alloc (.cells (cS x) 26)) f (hin.alloc _) (HLim.out.at_ k x hx) ((HW.out.below HB2.out).alloc _) hm hf)
        have HBK := Lib.hid (Blk.new w2 26 (cS x))
        obtain ⟨xw, xm, xt, xA, xn, xc, xW, xB, xk, xd, xT⟩ := x
        simp only [cS] at HC HBK
        clear hx hin hf
        cases f
        · have HT2 : Hid ((((cc L).take (k + 1)).filter (fun s => seesB s.watch cs)).map Sl.who = (((cc L).take k).filter (fun s => seesB s.watch cs)).map Sl.who) := Lib.hid (by rw [HT.out, if_neg (by show ¬ seesB xW cs = true; rw [HF0.out]; decide), List.append_nil])
          go_wp2_with fail
          refine HC.out.mono ?_
          rintro e w3 ⟨rfl, b3⟩
          have HO := Lib.hid ((hown.alloc (.cells #[.int .i64 xw, .int .i64 xm, .int .i64 xt, .slice xA xn xc, .slice xB xk xd] 26)).below b3)
          clear b3 HC hown
          go_wp2
          go_roundw
          case rel => exact ⟨k + 1, j, by omega, by omega, by go_num, Lib.hid (by have := congrArg List.length HT2.out; rw [List.length_map, List.length_map] at this; rw [this]; exact HJ.out), by rw [HT2.out]; exact HO.out⟩
          case measure => simp [intOf]; omega
        · have HT2 : Hid ((((cc L).take (k + 1)).filter (fun s => seesB s.watch cs)).map Sl.who = (((cc L).take k).filter (fun s => seesB s.watch cs)).map Sl.who ++ [xw]) := Lib.hid (by rw [HT.out, if_pos (by exact HF0.out)]; rfl)
          go_wp2_with fail
          refine HC.out.mono ?_
          rintro e w3 ⟨rfl, b3⟩
          have hown3 := (hown.alloc (.cells #[.int .i64 xw, .int .i64 xm, .int .i64 xt, .slice xA xn xc, .slice xB xk xd] 26)).below b3
          have q0 := (HBK.out.below b3).cell 0 _ rfl
          clear b3 HC hown
          go_wp2_with (at_builtin; refine append_rd rfl _ _ 32 rfl Mem.tInt w1 _ _ _ rfl (hown3.alloc _) _ 1 1 [.int .i64 xw] rfl (Rd.builtAt _ 1 1 [.int .i64 xw] _ rfl (by simp)) (one_cons rfl one_nil) (by omega) (by omega) ?_; intro v' w' hown' hg; clear hg)
          go_roundw
          case rel => exact ⟨k + 1, j + 1, by omega, by omega, by go_num, Lib.hid (by have := congrArg List.length HT2.out; rw [List.length_map, List.length_append, List.length_map] at this; rw [this, HJ.out]; rfl), by rw [HT2.out, zs_app]; exact hown'⟩
          case measure => simp [intOf]; omega
      · have ho := hown
        have hj := HJ.out
        rw [List.take_of_length_le (by rw [cc_len, HLen.out]; omega)] at ho hj
        rw [← HF.out] at ho
        have hjq : j = q := by rw [← HQ.out, HF.out, List.length_map]; exact hj.symm
        subst hjq
        have HO := Lib.hid ho
        clear hown ho hj
        go_wp2
        go_ret
        exact ⟨_, rfl, HO.out.wide HB1.out⟩
end Go.Proofs.YtddgdhaioomnnaaGreat.Sleep
