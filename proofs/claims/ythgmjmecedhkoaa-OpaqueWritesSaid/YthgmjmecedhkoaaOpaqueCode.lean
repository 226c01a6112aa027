/-
  WHAT THE FUNCTIONS OF THE LAYER opaque RETURN, AS THEY ARE WRITTEN: rightState, sameLive, follows, Right.
-/
import Derived.Test.YthgmjmecedhkoaaOpaqueMem
import Derived.Test.YthgmjmecedhkoaaReadsSame
import Derived.StillTailTactics
namespace Go.Proofs.Ythgmjmecedhkoaa.Opaque
open Go.ChangeShapes Go.WideShapes Go.ChangeAt Go.RowKit Mem

set_option maxRecDepth 100000 in
theorem state_c (v : Int) (A : Option Addr) (n c : Nat) (h : List Heap.Cell) (w : World) (b : Bool) (hr : Rd w 2 A n (Heap.cs h)) (hn : n ≤ 1000000) (hb : okB ⟨v, h⟩ = b) :
    Calls Try.prog 19 #[.agg #[.int .i64 v, .slice A n c]] w (RetB w b) := by
  have HR := Lib.hid hr
  have HB := Lib.hid hb
  clear hr hb
  cases h1 : Reads.timeB v
  · have HF : Hid (b = false) := Lib.hid (by rw [← HB.out]; unfold okB; rw [h1]; rfl)
    go_enter Try.func19, Try.ntmps19
    go_wp2_with (go_at_call 15; refine (Reads.tick_any _ _).mono ?_; rintro e w' ⟨rfl, rfl⟩)
    go_ret
    exact ⟨ret_bool HF.out.symm, bl_alloc (Below.refl _ _) _⟩
  · have HF : Hid (Heap.rightB h = b) := Lib.hid (by rw [← HB.out]; unfold okB; rw [h1]; rfl)
    go_enter Try.func19, Try.ntmps19
    go_wp2_with (go_at_call 15; refine (Reads.tick_any _ _).mono ?_; rintro e w' ⟨rfl, rfl⟩)
    refine (Heap.right_c h _ _ _ _ b (HR.out.alloc _) hn HF.out).mono ?_
    rintro e w2 ⟨rfl, b2⟩
    go_wp2
    go_ret
    exact ⟨rfl, bl_trans (bl_alloc (Below.refl _ _) _) b2⟩

set_option maxRecDepth 100000 in
theorem live_f (a b : Bool) (x y : Int) (w : World) (r : Bool) (hr : (a == b) = r) :
    Calls Try.prog 34 #[.agg #[.bool a, .int .i64 x], .agg #[.bool b, .int .i64 y]] w (RetB w r) := by
  subst hr
  go_enter Try.func34, Try.ntmps34
  go_wp2
  go_ret
  exact ⟨rfl, bl_alloc (bl_alloc (Below.refl _ _) _) _⟩

set_option maxRecDepth 100000 in
theorem equal_c (g h : List Heap.Cell) (A D : Option Addr) (n c m d : Nat) (w : World) (r : Bool) (hg : Rd w 2 A n (Heap.cs g)) (hh : Rd w 2 D m (Heap.cs h)) (hn : n ≤ 1000000) (hm : m ≤ 1000000) (hr : likeB g h = r) :
    Calls Try.prog 33 #[.slice A n c, .slice D m d, .func (.func 34) #[] #[]] w (RetB w r) := by
  have HG := Lib.hid hg
  have HH := Lib.hid hh
  have HR := Lib.hid hr
  have HLg : Hid (g.length = n) := Lib.hid (by have := hg.1; rw [Heap.cs_len] at this; omega)
  have HLh : Hid (h.length = m) := Lib.hid (by have := hh.1; rw [Heap.cs_len] at this; omega)
  clear hg hh hr
  by_cases hne : n = m
  · subst hne
    go_enter Try.func33, Try.ntmps33
    go_wp2
    go_loopw [17] (fun i wr => ∃ k : Nat, k ≤ n ∧ i = .int .i64 k ∧ Hid (Below w.heap.size w wr) ∧ Hid (∀ (j : Nat) (x y : Heap.Cell), j < k → g[j]? = some x → h[j]? = some y → x.live = y.live)) (fun i _ => n - (intOf i).toNat)
    case atStart => exact ⟨0, Nat.zero_le _, rfl, Lib.hid (Below.refl _ _), Lib.hid (fun j x y hj => absurd hj (Nat.not_lt_zero _))⟩
    case round =>
      obtain ⟨k, hk, rfl, HB, hall⟩ := hrel
      generalize wr = w1 at *
      by_cases hlt : k < n
      · obtain ⟨b, off, ⟨lx, vx⟩, rfl, hx, c0, c1⟩ := Heap.at_cell (HG.out.below HB.out) k hlt
        obtain ⟨b2, off2, ⟨ly, vy⟩, rfl, hy, d0, d1⟩ := Heap.at_cell (HH.out.below HB.out) k hlt
        have e0 := (HH.out.below (bl_alloc HB.out (.cells #[.bool lx, .int .i64 vx] 33)))
        have f0 : (w1.alloc (.cells #[.bool lx, .int .i64 vx] 33)).cell? ⟨b2, off2 + k * 2, none⟩ = some (.bool ly) := ((bl_alloc (Below.refl w1.heap.size w1) _).cell (cell_lt d0)).trans d0
        have f1 : (w1.alloc (.cells #[.bool lx, .int .i64 vx] 33)).cell? ⟨b2, off2 + k * 2 + 1, none⟩ = some (.int .i64 vy) := ((bl_alloc (Below.refl w1.heap.size w1) _).cell (cell_lt d1)).trans d1
        have HX := Lib.hid hx
        have HY := Lib.hid hy
        clear hx hy e0
        by_cases he : lx = ly
        · subst he
          have HE : Hid ((lx == lx) = true) := Lib.hid (by simp)
          go_wp2_with fail
          refine (live_f _ _ _ _ _ true HE.out).mono ?_
          rintro e w2 ⟨rfl, b2⟩
          have HB2 := Lib.hid (bl_trans (bl_alloc (bl_alloc HB.out _) _) b2)
          clear b2
          go_wp2
          go_roundw
          case rel => exact ⟨k + 1, by omega, by go_num, HB2, Lib.hid (fun j x y hj gx gy => by
            rcases Nat.lt_or_ge j k with h2 | h2
            · exact hall.out j x y h2 gx gy
            · obtain rfl : j = k := by omega
              rw [HX.out] at gx; rw [HY.out] at gy
              injection gx with gx; injection gy with gy
              rw [← gx, ← gy])⟩
          case measure => simp [intOf]; omega
        · have HE : Hid ((lx == ly) = false) := Lib.hid (by simpa using he)
          have HF : Hid (r = false) := Lib.hid (by rw [← HR.out]; exact like_not g h k _ _ HX.out HY.out he)
          clear he
          go_wp2_with fail
          refine (live_f _ _ _ _ _ false HE.out).mono ?_
          rintro e w2 ⟨rfl, b2⟩
          have HB2 := Lib.hid (bl_trans (bl_alloc (bl_alloc HB.out _) _) b2)
          clear b2
          go_wp2
          go_ret
          exact ⟨ret_bool HF.out.symm, HB2.out⟩
      · have HF : Hid (r = true) := Lib.hid (by
          rw [← HR.out]
          exact like_of g h (by rw [HLg.out, HLh.out]) (fun j x y hx hy => hall.out j x y (by have := (List.getElem?_eq_some_iff.1 hx).1; rw [HLg.out] at this; omega) hx hy))
        go_wp2
        go_ret
        exact ⟨ret_bool HF.out.symm, HB.out⟩
  · have HF : Hid (r = false) := Lib.hid (by
      rw [← HR.out]
      cases hl : likeB g h
      · rfl
      · have := like_len g h hl; rw [HLg.out, HLh.out] at this; exact absurd this hne)
    have t1 : ((n : Int) != (m : Int)) = true := by simp; omega
    clear hne
    go_enter Try.func33, Try.ntmps33
    go_wp2
    go_ret
    exact ⟨ret_bool HF.out.symm, Below.refl _ _⟩

set_option maxRecDepth 100000 in
theorem like_c (g h : List Heap.Cell) (A D : Option Addr) (n c m d : Nat) (w : World) (r : Bool) (hg : Rd w 2 A n (Heap.cs g)) (hh : Rd w 2 D m (Heap.cs h)) (hn : n ≤ 1000000) (hm : m ≤ 1000000) (hr : likeB g h = r) :
    Calls Try.prog 26 #[.slice A n c, .slice D m d] w (RetB w r) := by
  have HC := Lib.hid (equal_c g h A D n c m d w r hg hh hn hm hr)
  clear hg hh hr
  go_enter Try.func26, Try.ntmps26
  go_wp2_with fail
  refine HC.out.mono ?_
  rintro e w2 ⟨rfl, b2⟩
  go_wp2
  go_ret
  exact ⟨rfl, b2⟩

set_option maxRecDepth 100000 in
theorem follows_c (u v : Int) (g h : List Heap.Cell) (A D : Option Addr) (n c m d : Nat) (w : World) (r : Bool) (hg : Rd w 2 A n (Heap.cs g)) (hh : Rd w 2 D m (Heap.cs h)) (hn : n ≤ 1000000) (hm : m ≤ 1000000) (hr : folB ⟨u, g⟩ ⟨v, h⟩ = r) :
    Calls Try.prog 20 #[.agg #[.int .i64 u, .slice A n c], .agg #[.int .i64 v, .slice D m d]] w (RetB w r) := by
  have HG := Lib.hid hg
  have HH := Lib.hid hh
  have HR := Lib.hid hr
  clear hg hh hr
  by_cases h1 : u < v
  · have HF : Hid (likeB g h = r) := Lib.hid (by rw [← HR.out]; unfold folB; simp [h1])
    go_enter Try.func20, Try.ntmps20
    go_wp2_with fail
    refine (like_c g h _ _ _ _ _ _ _ r ((HG.out.alloc _).alloc _) ((HH.out.alloc _).alloc _) hn hm HF.out).mono ?_
    rintro e w2 ⟨rfl, b2⟩
    go_wp2
    go_ret
    exact ⟨rfl, bl_trans (bl_alloc (bl_alloc (Below.refl _ _) _) _) b2⟩
  · have HF : Hid (r = false) := Lib.hid (by rw [← HR.out]; unfold folB; simp [h1])
    go_enter Try.func20, Try.ntmps20
    go_wp2
    go_ret
    exact ⟨ret_bool HF.out.symm, bl_alloc (bl_alloc (Below.refl _ _) _) _⟩

set_option maxRecDepth 100000 in
theorem right_c (L : List RawS) (A : Option Addr) (n c : Nat) (w : World) (b : Bool) (hr : Past w A n L) (hn : n ≤ 1000000) (hl : Lim L) (hb : rightB (cc L) = b) :
    Calls Try.prog 9 #[.slice A n c] w (RetB w b) := by
  have HL := Lib.hid hr.len
  have HR := Lib.hid hr
  have HB0 := Lib.hid hb
  have HLim := Lib.hid hl
  clear hr hb hl
  go_enter Try.func9, Try.ntmps9
  go_wp2
  go_loopw [7] (fun i wr => ∃ k : Nat, k ≤ n ∧ i = .int .i64 k ∧ Hid (Below w.heap.size w wr) ∧ Hid (uptoB (cc L) k = true)) (fun i _ => n - (intOf i).toNat)
  case atStart => exact ⟨0, Nat.zero_le _, rfl, Lib.hid (Below.refl _ _), Lib.hid rfl⟩
  case round =>
    obtain ⟨k, hk, rfl, HB, hall⟩ := hrel
    generalize wr = w1 at *
    by_cases hlt : k < n
    · obtain ⟨b1, off, ⟨xv, xA, xn, xc, xh⟩, rfl, hx, c0, c1, hin⟩ := (HR.out.below HB.out).at_ k hlt
      have HX := Lib.hid hx
      have HIN := Lib.hid hin
      have hxn : xn ≤ 1000000 := HLim.out.at_ k _ hx
      have HBK := Lib.hid (Blk.new w1 39 #[.int .i64 xv, .slice xA xn xc])
      have HU := Lib.hid (upto_succ (cc L) k)
      have HAT := Lib.hid (cc_at L k _ hx)
      clear hx hin
      cases h1 : okB ⟨xv, xh⟩
      · have H1 := Lib.hid h1
        have HF : Hid (b = false) := Lib.hid (by
          rw [← HB0.out]
          refine right_bad (cc L) k (by rw [cc_len, HL.out]; exact hlt) ?_
          cases ha : atB (cc L) k
          · rfl
          · have := at_ok _ _ _ HAT.out ha; unfold st at this; rw [h1] at this; cases this)
        clear h1
        go_wp2_with fail
        refine (state_c _ _ _ _ xh _ false (HIN.out.alloc _) hxn H1.out).mono ?_
        rintro e w2 ⟨rfl, b2⟩
        have HB2 := Lib.hid (bl_trans (bl_alloc HB.out _) b2)
        clear b2
        go_wp2
        go_ret
        exact ⟨ret_bool HF.out.symm, HB2.out⟩
      · have H1 := Lib.hid h1
        clear h1
        go_wp2_with fail
        refine (state_c _ _ _ _ xh _ true (HIN.out.alloc _) hxn H1.out).mono ?_
        rintro e w2 ⟨rfl, b2⟩
        have HB2 := Lib.hid (bl_trans (bl_alloc HB.out _) b2)
        have HI2 := Lib.hid ((HIN.out.alloc (.cells #[.int .i64 xv, .slice xA xn xc] 39)).below b2)
        have c3 := (HBK.out.below b2).cell 0 _ rfl
        have c4 := (HBK.out.below b2).cell 1 _ rfl
        clear b2 c0 c1
        rcases Nat.eq_zero_or_pos k with hk0 | hk0
        · subst hk0
          have HY : Hid (atB (cc L) 0 = true) := Lib.hid (by rw [at_first _ _ HAT.out]; exact H1.out)
          have g0 : decide ((0 : Int) < ((0 : Nat) : Int)) = false := by decide
          go_wp2_with fail
          go_quiet (fail)
          go_wp2
          go_roundw
          case rel => exact ⟨1, by omega, by go_num, Lib.hid (bl_drewN HB2.out _), Lib.hid (by rw [HU.out, hall.out, HY.out]; rfl)⟩
          case measure => simp [intOf]; omega
        · obtain ⟨j, hkj⟩ : ∃ j, k = j + 1 := ⟨k - 1, by omega⟩
          have HKJ := Lib.hid hkj
          obtain ⟨b5, off5, ⟨yv, yA, yn, yc, yh⟩, e5, hy, d0, d1, hiy⟩ := (HR.out.below HB2.out).at_ j (by omega)
          injection e5 with e5
          injection e5 with e6 e7
          subst e6 e7
          have HIY := Lib.hid hiy
          have hyn : yn ≤ 1000000 := HLim.out.at_ j _ hy
          have HYT := Lib.hid (cc_at L j _ hy)
          clear hiy hy
          have g0 : (k : Int) - 1 = (j : Int) := by omega
          have g1 : (0 : Int) < (k : Int) := by omega
          have g2 : (j : Int) < (n : Int) := by omega
          have g3 : IntKind.i64.wrap (j : Int) = (j : Int) := by rw [IntKind.wrap_i64]; omega
          clear hkj
          cases h2 : folB ⟨yv, yh⟩ ⟨xv, xh⟩
          · have H2 := Lib.hid h2
            have HF : Hid (b = false) := Lib.hid (by
              rw [← HB0.out]
              refine right_bad (cc L) k (by rw [cc_len, HL.out]; exact hlt) ?_
              have e9 := HAT.out
              rw [HKJ.out] at e9 ⊢
              rw [at_next _ j _ _ HYT.out e9]
              unfold st
              rw [h2, Bool.and_false])
            clear h2
            go_wp2_with fail
            go_still_tail 9, (by kernel_rfl)
            go_wp2_with fail
            refine (follows_c _ _ yh xh _ _ _ _ _ _ _ false (Rd.drew HIY.out) (Rd.drew HI2.out) hyn hxn H2.out).mono ?_
            rintro e w3 ⟨rfl, b3⟩
            have HB3 := Lib.hid (bl_trans HB2.out.drew b3)
            clear b3
            go_wp2
            go_ret
            exact ⟨ret_bool HF.out.symm, HB3.out⟩
          · have H2 := Lib.hid h2
            have HY : Hid (atB (cc L) k = true) := Lib.hid (by
              have e9 := HAT.out
              rw [HKJ.out] at e9 ⊢
              rw [at_next _ j _ _ HYT.out e9]
              unfold st
              rw [h2, H1.out]; rfl)
            clear h2
            go_wp2_with fail
            go_still_tail 9, (by kernel_rfl)
            go_wp2_with fail
            refine (follows_c _ _ yh xh _ _ _ _ _ _ _ true (Rd.drew HIY.out) (Rd.drew HI2.out) hyn hxn H2.out).mono ?_
            rintro e w3 ⟨rfl, b3⟩
            have HB3 := Lib.hid (bl_trans HB2.out.drew b3)
            clear b3
            go_wp2
            go_roundw
            case rel => exact ⟨k + 1, by omega, by go_num, HB3, Lib.hid (by rw [HU.out, hall.out, HY.out]; rfl)⟩
            case measure => simp [intOf]; omega
    · obtain rfl : k = n := by omega
      by_cases h0 : 0 < k
      · have HF : Hid (b = true) := Lib.hid (by
          rw [← HB0.out]
          exact right_all (cc L) (by rw [cc_len, HL.out]; exact h0) (by rw [cc_len, HL.out]; exact hall.out))
        go_wp2
        go_ret
        exact ⟨ret_bool HF.out.symm, HB.out⟩
      · obtain rfl : k = 0 := by omega
        have HF : Hid (b = false) := Lib.hid (by
          rw [← HB0.out]; unfold rightB; rw [cc_len, HL.out]; rfl)
        go_wp2
        go_ret
        exact ⟨ret_bool HF.out.symm, HB.out⟩
end Go.Proofs.Ythgmjmecedhkoaa.Opaque
