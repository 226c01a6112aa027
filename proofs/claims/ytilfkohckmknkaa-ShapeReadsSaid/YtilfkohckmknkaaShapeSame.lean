/-
  WHAT THE DOCUMENT'S ANSWERS FOR LAYERS 7, 8 AND 9 RETURN: Same.
-/
import Derived.Test.YtilfkohckmknkaaShapeMem
import Derived.Laws.StructEq
import Derived.Deep.QuietTactic
import Derived.BigQuiet
namespace Go.Proofs.Ytilfkohckmknkaa.Shape
open Go.ChangeShapes Go.WideShapes Go.ChangeAt Go.RowKit Mem Go.Proofs.Ytilfkohckmknkaa.Code

/-- What is returned: a truth; the world has drawn at most. -/
def RetQ (w : World) (v : Bool) (e : Ending) (w' : World) : Prop := e = .returned (.bool v) ∧ ∃ q, w' = w.drewN q
theorem RetQ.toB {w w' : World} {v : Bool} {e : Ending} (h : RetQ w v e w') : RetB w v e w' := by
  obtain ⟨rfl, q, rfl⟩ := h
  exact ⟨rfl, bl_drewN (Below.refl _ _) _⟩
theorem same7 (x y : List Term.Op) (A B : Option Addr) (n m c d : Nat) (w : World) (v : Bool) (hx : Rd w 2 A n (Term.ops x)) (hy : Rd w 2 B m (Term.ops y)) (hn : n ≤ 1000000) (hm : m ≤ 1000000) (hv : decide (x = y) = v) :
    Calls Try.prog 41 #[.slice A n c, .slice B m d] w (RetQ w v) := by
  subst hv
  have HX := Lib.hid (Term.ops_len hx)
  have HY := Lib.hid (Term.ops_len hy)
  by_cases hnm : n = m
  · subst hnm
    go_enter Try.func41, Try.ntmps41
    go_wp2
    go_loopw [5] (fun i wr => ∃ k q : Nat, k ≤ n ∧ i = .int .i64 k ∧ wr = w.drewN q ∧ Hid (x.take k = y.take k)) (fun i _ => n - (intOf i).toNat)
    case atStart => exact ⟨0, 0, Nat.zero_le _, rfl, rfl, Lib.hid rfl⟩
    case round =>
      obtain ⟨k, q, hk, rfl, rfl, hall⟩ := hrel
      by_cases hlt : k < n
      · obtain ⟨b, off, ⟨vr, ow⟩, rfl, gx, c0, c1⟩ := Term.at_op hx k hlt
        obtain ⟨b', off', ⟨vr', ow'⟩, rfl, gy, c0', c1'⟩ := Term.at_op hy k hlt
        simp only at c0 c1 c0' c1'
        have GX := Lib.hid gx
        have GY := Lib.hid gy
        clear gx gy
        by_cases heq : vr = vr' ∧ ow = ow'
        · obtain ⟨rfl, rfl⟩ := heq
          have hs : Hid (x.take (k + 1) = y.take (k + 1)) := Lib.hid (take_eq x y k _ GX.out GY.out hall.out)
          go_wp2
          go_quiet (fail)
          go_wp2
          go_roundw
          case rel => exact ⟨k + 1, _, by omega, by go_num, by first | rfl | rw [World.drewN_drewN], hs⟩
          case measure => simp [intOf]; omega
        · have hf : Hid (decide (x = y) = false) := Lib.hid (take_ne x y k _ _ GX.out GY.out (by intro e; injection e with e0 e1; exact heq ⟨e0, e1⟩))
          by_cases h0 : vr = vr'
          · subst h0
            have h1 : ¬ ow = ow' := fun e => heq ⟨rfl, e⟩
            clear heq
            go_wp2
            go_quiet (fail)
            go_wp2
            go_ret
            exact ⟨ret_bool hf.out.symm, _, by first | rfl | rw [World.drewN_drewN]⟩
          · clear heq
            go_wp2
            go_quiet (fail)
            go_wp2
            go_ret
            exact ⟨ret_bool hf.out.symm, _, by first | rfl | rw [World.drewN_drewN]⟩
      · have hf : Hid (decide (x = y) = true) := by
          refine Lib.hid (decide_eq_true ?_)
          have := hall.out
          rwa [List.take_of_length_le (by rw [HX.out]; omega), List.take_of_length_le (by rw [HY.out]; omega)] at this
        go_wp2
        go_ret
        exact ⟨ret_bool hf.out.symm, _, rfl⟩
  · have hf : Hid (decide (x = y) = false) := by
      refine Lib.hid (decide_eq_false ?_)
      intro e
      have l1 := HX.out
      have l2 := HY.out
      rw [e] at l1
      exact hnm (by omega)
    go_enter Try.func41, Try.ntmps41
    go_wp2
    go_ret
    exact ⟨ret_bool hf.out.symm, 0, rfl⟩

set_option maxRecDepth 100000 in
set_option maxHeartbeats 2000000 in
theorem same8 (x y : List Raw) (A B : Option Addr) (n m c d : Nat) (w : World) (v : Bool) (hx : At w A n x) (hy : At w B m y) (lx : Lim x) (ly : Lim y) (hn : n ≤ 1000000) (hm : m ≤ 1000000) (hv : decide (ss x = ss y) = v) :
    Calls Try.prog 33 #[.slice A n c, .slice B m d] w (RetQ w v) := by
  subst hv
  have HX := Lib.hid hx.len
  have HY := Lib.hid hy.len
  by_cases hnm : n = m
  · subst hnm
    go_enter Try.func33, Try.ntmps33
    go_wp2
    go_loopw [5] (fun i wr => ∃ k q : Nat, k ≤ n ∧ i = .int .i64 k ∧ wr = w.drewN q ∧ Hid ((ss x).take k = (ss y).take k)) (fun i _ => n - (intOf i).toNat)
    case atStart => exact ⟨0, 0, Nat.zero_le _, rfl, rfl, Lib.hid rfl⟩
    case round =>
      obtain ⟨k, q, hk, rfl, hwq, hall⟩ := hrel
      generalize wr = w1 at *
      have HWQ := Lib.hid hwq
      have hx1 : At w1 A n x := by rw [hwq]; exact hx
      have hy1 : At w1 B n y := by rw [hwq]; exact hy
      clear hwq
      by_cases hlt : k < n
      · obtain ⟨b, off, ⟨⟨xd, xa, xb, xt⟩, XT, xn, xc⟩, rfl, gx, c0, c1, c2, c3, rx, _⟩ := hx1.at_ k hlt
        obtain ⟨b', off', ⟨⟨yd, ya, yb, yt⟩, YT, yn, yc⟩, rfl, gy, d0, d1, d2, d3, ry, _⟩ := hy1.at_ k hlt
        simp only at c0 c1 c2 c3 d0 d1 d2 d3 rx ry
        have hxl : xn ≤ 1000000 := lx _ (List.mem_of_getElem? gx)
        have hyl : yn ≤ 1000000 := ly _ (List.mem_of_getElem? gy)
        have GX := Lib.hid (ss_at x k _ gx)
        have GY := Lib.hid (ss_at y k _ gy)
        simp only at GX GY
        obtain ⟨tv, htv⟩ : ∃ t, decide (xt = yt) = t := ⟨_, rfl⟩
        have hc := fun m => (same7 xt yt XT YT xn yn xc yc (w1.drewN m) tv (rx.drewN m) (ry.drewN m) hxl hyl htv).mono (fun _ _ (h : _ ∧ _) => (⟨h.1, h.2⟩ : _ ∧ ∃ q, _ = (w1.drewN m).drewN q))
        have HTV := Lib.hid htv
        clear gx gy htv
        cases tv with
        | true =>
          have hte : xt = yt := by have := HTV.out; simpa using this
          by_cases e0 : xd = yd
          · by_cases e1 : xa = ya
            · by_cases e2 : xb = yb
              · subst e0 e1 e2
                have hs : Hid ((ss x).take (k + 1) = (ss y).take (k + 1)) := Lib.hid (take_eq _ _ k _ GX.out (by rw [GY.out, hte]) hall.out)
                clear hte
                go_wp2
                go_quiet (first | (go_at_call 41; refine Calls.quiet_of (hc _)))
                go_wp2
                go_quiet (fail)
                go_wp2
                go_roundw
                case rel => exact ⟨k + 1, _, by omega, by go_num, by rw [HWQ.out]; first | rfl | (rw [World.drewN_drewN]; done) | (rw [World.drewN_drewN, World.drewN_drewN]; done), hs⟩
                case measure => simp [intOf]; omega
              · have hf : Hid (decide (ss x = ss y) = false) := Lib.hid (take_ne _ _ k _ _ GX.out GY.out (by intro e; injection e with i0 i1 i2 i3; exact e2 i2))
                have f2 : (xb != yb) = true := by simpa using e2
                subst e0 e1
                clear e2 hte
                go_wp2
                go_quiet (first | (go_at_call 41; refine Calls.quiet_of (hc _)))
                go_wp2
                go_quiet (fail)
                go_wp2
                go_ret
                exact ⟨ret_bool hf.out.symm, _, by rw [HWQ.out]; first | rfl | (rw [World.drewN_drewN]; done) | (rw [World.drewN_drewN, World.drewN_drewN]; done)⟩
            · have hf : Hid (decide (ss x = ss y) = false) := Lib.hid (take_ne _ _ k _ _ GX.out GY.out (by intro e; injection e with i0 i1 i2 i3; exact e1 i1))
              have f1 : (xa != ya) = true := by simpa using e1
              subst e0
              clear e1 hte
              go_wp2
              go_quiet (first | (go_at_call 41; refine Calls.quiet_of (hc _)))
              go_wp2
              go_quiet (fail)
              go_wp2
              go_ret
              exact ⟨ret_bool hf.out.symm, _, by rw [HWQ.out]; first | rfl | (rw [World.drewN_drewN]; done) | (rw [World.drewN_drewN, World.drewN_drewN]; done)⟩
          · have hf : Hid (decide (ss x = ss y) = false) := Lib.hid (take_ne _ _ k _ _ GX.out GY.out (by intro e; injection e with i0 i1 i2 i3; exact e0 i0))
            have f0 : (xd != yd) = true := by simpa using e0
            clear e0 hte
            go_wp2
            go_quiet (first | (go_at_call 41; refine Calls.quiet_of (hc _)))
            go_wp2
            go_quiet (fail)
            go_wp2
            go_ret
            exact ⟨ret_bool hf.out.symm, _, by rw [HWQ.out]; first | rfl | (rw [World.drewN_drewN]; done) | (rw [World.drewN_drewN, World.drewN_drewN]; done)⟩
        | false =>
          have hte : xt ≠ yt := by have := HTV.out; simpa using this
          have hf : Hid (decide (ss x = ss y) = false) := Lib.hid (take_ne _ _ k _ _ GX.out GY.out (by intro e; injection e with i0 i1 i2 i3; exact hte i3))
          clear hte
          go_wp2
          go_quiet (first | (go_at_call 41; refine Calls.quiet_of (hc _)))
          go_wp2
          go_quiet (fail)
          go_wp2
          go_ret
          exact ⟨ret_bool hf.out.symm, _, by rw [HWQ.out]; first | rfl | (rw [World.drewN_drewN]; done) | (rw [World.drewN_drewN, World.drewN_drewN]; done)⟩
      · have hf : Hid (decide (ss x = ss y) = true) := by
          refine Lib.hid (decide_eq_true ?_)
          have := hall.out
          rwa [List.take_of_length_le (by rw [ss_len, HX.out]; omega), List.take_of_length_le (by rw [ss_len, HY.out]; omega)] at this
        go_wp2
        go_ret
        exact ⟨ret_bool hf.out.symm, q, HWQ.out⟩
  · have hf : Hid (decide (ss x = ss y) = false) := by
      refine Lib.hid (decide_eq_false ?_)
      intro e
      have l1 := congrArg List.length e
      rw [ss_len, ss_len, HX.out, HY.out] at l1
      exact hnm l1
    go_enter Try.func33, Try.ntmps33
    go_wp2
    go_ret
    exact ⟨ret_bool hf.out.symm, 0, rfl⟩

set_option maxRecDepth 100000 in
set_option maxHeartbeats 1000000 in
theorem same9 (X Y : List RawC) (A B : Option Addr) (n m c d : Nat) (w : World) (v : Bool) (hx : Codes w A n X) (hy : Codes w B m Y) (lx : LimC X) (ly : LimC Y) (hn : n ≤ 1000000) (hm : m ≤ 1000000) (hv : decide (cc X = cc Y) = v) :
    Calls Try.prog 20 #[.slice A n c, .slice B m d] w (RetQ w v) := by
  subst hv
  have HX := Lib.hid hx.len
  have HY := Lib.hid hy.len
  by_cases hnm : n = m
  · subst hnm
    go_enter Try.func20, Try.ntmps20
    go_wp2
    go_loopw [5] (fun i wr => ∃ k q : Nat, k ≤ n ∧ i = .int .i64 k ∧ wr = w.drewN q ∧ Hid ((cc X).take k = (cc Y).take k)) (fun i _ => n - (intOf i).toNat)
    case atStart => exact ⟨0, 0, Nat.zero_le _, rfl, rfl, Lib.hid rfl⟩
    case round =>
      obtain ⟨k, q, hk, rfl, hwq, hall⟩ := hrel
      generalize wr = w1 at *
      have HWQ := Lib.hid hwq
      have hx1 : Codes w1 A n X := by rw [hwq]; exact hx
      have hy1 : Codes w1 B n Y := by rw [hwq]; exact hy
      clear hwq
      by_cases hlt : k < n
      · obtain ⟨b, off, ⟨XA, xn, xc, xl⟩, rfl, gx, c0, ix⟩ := hx1.at_ k hlt
        obtain ⟨b', off', ⟨YA, yn, yc, yl⟩, rfl, gy, d0, iy⟩ := hy1.at_ k hlt
        simp only at c0 d0
        have hxl := lx _ (List.mem_of_getElem? gx)
        have hyl := ly _ (List.mem_of_getElem? gy)
        have GX := Lib.hid (cc_at X k _ gx)
        have GY := Lib.hid (cc_at Y k _ gy)
        simp only at GX GY
        obtain ⟨tv, htv⟩ : ∃ t, decide (ss xl = ss yl) = t := ⟨_, rfl⟩
        have hc := fun m => (same8 xl yl XA YA xn yn xc yc (w1.drewN m) tv ix.1 iy.1 hxl.2 hyl.2 hxl.1 hyl.1 htv).mono (fun _ _ (h : _ ∧ _) => (⟨h.1, h.2⟩ : _ ∧ ∃ q, _ = (w1.drewN m).drewN q))
        have HTV := Lib.hid htv
        clear gx gy htv hxl hyl
        cases tv with
        | true =>
          have hte : ss xl = ss yl := by have := HTV.out; simpa using this
          have hs : Hid ((cc X).take (k + 1) = (cc Y).take (k + 1)) := Lib.hid (take_eq _ _ k _ GX.out (by rw [GY.out, hte]) hall.out)
          clear hte
          go_wp2
          go_quiet (first | (go_at_call 33; refine Calls.quiet_of (hc _)))
          go_wp2
          go_roundw
          case rel => exact ⟨k + 1, _, by omega, by go_num, by rw [HWQ.out]; first | rfl | rw [World.drewN_drewN], hs⟩
          case measure => simp [intOf]; omega
        | false =>
          have hf : Hid (decide (cc X = cc Y) = false) := Lib.hid (take_ne _ _ k _ _ GX.out GY.out (by have := HTV.out; simpa using this))
          go_wp2
          go_quiet (first | (go_at_call 33; refine Calls.quiet_of (hc _)))
          go_wp2
          go_ret
          exact ⟨ret_bool hf.out.symm, _, by rw [HWQ.out]; first | rfl | rw [World.drewN_drewN]⟩
      · have hf : Hid (decide (cc X = cc Y) = true) := by
          refine Lib.hid (decide_eq_true ?_)
          have := hall.out
          rwa [List.take_of_length_le (by rw [cc_len, HX.out]; omega), List.take_of_length_le (by rw [cc_len, HY.out]; omega)] at this
        go_wp2
        go_ret
        exact ⟨ret_bool hf.out.symm, q, HWQ.out⟩
  · have hf : Hid (decide (cc X = cc Y) = false) := by
      refine Lib.hid (decide_eq_false ?_)
      intro e
      have l1 := congrArg List.length e
      rw [cc_len, cc_len, HX.out, HY.out] at l1
      exact hnm l1
    go_enter Try.func20, Try.ntmps20
    go_wp2
    go_ret
    exact ⟨ret_bool hf.out.symm, 0, rfl⟩
end Go.Proofs.Ytilfkohckmknkaa.Shape
