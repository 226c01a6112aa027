/-
  THE LIBRARY'S slices.BinarySearchFunc AT []api.Write, BY Cell: walked as it is written.
-/
import Derived.Test.YtjmilnfemjnhoaaWritesCode
import Derived.Shelf.Abstract
namespace Go.Proofs.Ytjmilnfemjnhoaa.Writes
open Go.ChangeShapes Go.WideShapes Go.ChangeAt Go.RowKit Mem
open Heap (Write wc ws ws_len vB at_write)

def cmpS (x y : Int) : Int := if x < y then -1 else if y < x then 1 else 0
theorem isnan_any (x : Int) (w : World) :
    Calls Try.prog 47 #[.int .i64 x] w fun e w' => e = .returned (.bool false) ∧ w = w' := by
  go_enter Try.func47, Try.ntmps47
  go_wp2
  go_ret
  exact ⟨ret_bool (by simp), rfl⟩
theorem compare_any (x y : Int) (w : World) :
    Calls Try.prog 42 #[.int .i64 x, .int .i64 y] w fun e w' => e = .returned (.int .i64 (cmpS x y)) ∧ w = w' := by
  by_cases h1 : x < y
  · have HF : Hid (cmpS x y = -1) := Lib.hid (by unfold cmpS; rw [if_pos h1])
    go_enter Try.func42, Try.ntmps42
    go_wp2_with (go_at_call 47; refine (isnan_any _ _).mono ?_; rintro e w' ⟨rfl, rfl⟩)
    go_ret
    exact ⟨ret_int (by rw [HF.out]), rfl⟩
  · by_cases h2 : y < x
    · have HF : Hid (cmpS x y = 1) := Lib.hid (by unfold cmpS; rw [if_neg h1, if_pos h2])
      go_enter Try.func42, Try.ntmps42
      go_wp2_with (go_at_call 47; refine (isnan_any _ _).mono ?_; rintro e w' ⟨rfl, rfl⟩)
      go_ret
      exact ⟨ret_int (by rw [HF.out]), rfl⟩
    · have HF : Hid (cmpS x y = 0) := Lib.hid (by unfold cmpS; rw [if_neg h1, if_neg h2])
      go_enter Try.func42, Try.ntmps42
      go_wp2_with (go_at_call 47; refine (isnan_any _ _).mono ?_; rintro e w' ⟨rfl, rfl⟩)
      go_ret
      exact ⟨ret_int (by rw [HF.out]), rfl⟩
/-- What is returned: a number; the world has grown. -/
def RetIG (w : World) (v : Int) (e : Ending) (w' : World) : Prop := e = .returned (.int .i64 v) ∧ Grew w w'
theorem bycell_g (ca va cb vb : Int) (w : World) (v : Int) (hv : cmpS ca cb = v) :
    Calls Try.prog 34 #[.agg #[.int .i64 ca, .int .i64 va], .agg #[.int .i64 cb, .int .i64 vb]] w (RetIG w v) := by
  subst hv
  go_enter Try.func34, Try.ntmps34
  go_wp2_with (go_at_call 42; refine (compare_any _ _ _).mono ?_; rintro e w' ⟨rfl, rfl⟩)
  go_ret
  exact ⟨rfl, ((Grew.refl w).alloc _).alloc _⟩

theorem found_mk (L : List Write) (c : Int) (p : Nat) (hp : p ≤ L.length) (h1 : ∀ t x, t < p → L[t]? = some x → x.cell < c) (h2 : ∀ t x, p ≤ t → L[t]? = some x → c ≤ x.cell) (f : Bool) (hf : (match L[p]? with | some y => (y.cell == c) | none => false) = f) : Found L c p f := by
  refine ⟨hp, fun x hx => ?_, fun x hx => ?_, hf⟩
  · obtain ⟨t, ht, e⟩ := List.mem_take_iff_getElem.1 hx
    exact h1 t x (by omega) (by rw [List.getElem?_eq_getElem (by omega), e])
  · obtain ⟨t, ht, e⟩ := List.mem_drop_iff_getElem.1 hx
    exact h2 (p + t) x (by omega) (by rw [List.getElem?_eq_getElem (by omega), ← e])
theorem rise_at (L : List Write) (hr : Rises L) (a b : Nat) (x y : Write) (hab : a < b) (hx : L[a]? = some x) (hy : L[b]? = some y) : x.cell < y.cell := by
  obtain ⟨h1, rfl⟩ := List.getElem?_eq_some_iff.1 hx
  obtain ⟨h2, rfl⟩ := List.getElem?_eq_some_iff.1 hy
  exact List.pairwise_iff_getElem.1 hr a b h1 h2 hab

theorem bycell_f (ca va cl vl : Int) (w : World) (v : Int) (cb : Array Value) (hcb : cb = #[]) (hv : cmpS ca cl = v) :
    Calls Try.prog 34 (#[.agg #[.int .i64 ca, .int .i64 va], .agg #[.int .i64 cl, .int .i64 vl]] ++ cb) w (RetIG w v) := by
  subst hcb
  exact bycell_g ca va cl vl w v hv

set_option maxRecDepth 100000 in
set_option maxHeartbeats 4000000 in
theorem search_g (L : List Write) (A : Option Addr) (n c : Nat) (cl vl : Int) (w : World) (cb : Array Value) (hcb : cb = #[]) (hr : Rd w 2 A n (ws L)) (hn : n ≤ 1000000) (hs : Rises L) :
    Calls Try.prog 33 #[.slice A n c, .agg #[.int .i64 cl, .int .i64 vl], .func (.func 34) #[] cb] w
      fun e w' => ∃ (p : Nat) (f : Bool), e = .returned (.tuple #[.int .i64 (p : Int), .bool f]) ∧ Found L cl p f ∧ Grew w w' := by
  have HR := Lib.hid hr
  have LN := Lib.hid (ws_n hr)
  have HS := Lib.hid hs
  have HCB := Lib.hid hcb
  clear hr hs hcb
  have eg : ∀ args w, (callFunc 34 args).run Try.prog w = .ok (.enter 34 args) w := enters_of Try.func34 (by kernel_rfl) rfl
  have K0 : Hid (Blk (w.alloc (.cells #[.int .i64 cl, .int .i64 vl] 27)) w.heap.size 27 #[.int .i64 cl, .int .i64 vl]) := Lib.hid (Blk.new _ _ _)
  have G0 : Hid (Grew w (w.alloc (.cells #[.int .i64 cl, .int .i64 vl] 27))) := Lib.hid ((Grew.refl w).alloc _)
  have hmix : Try.prog.follows .mixedOrders = true := by kernel_rfl
  go_enter Try.func33, Try.ntmps33
  go_wp2
  generalize w.alloc (.cells #[.int .i64 cl, .int .i64 vl] 27) = w0 at *
  go_loopg [9, 10] n (fun kx s9 s10 wr => ∃ lo hi : Nat, s9 = .int .i64 lo ∧ s10 = .int .i64 hi ∧ lo ≤ hi ∧ hi ≤ n ∧ hi - lo ≤ kx ∧ Hid (Grew w0 wr) ∧
    Hid ((∀ t x, t < lo → L[t]? = some x → x.cell < cl) ∧ (∀ t x, hi ≤ t → L[t]? = some x → cl ≤ x.cell)))
  case atStart => exact ⟨0, n, rfl, rfl, Nat.zero_le _, Nat.le_refl _, by omega, Lib.hid (Grew.refl _), Lib.hid ⟨fun t x h => by omega, fun t x h hx => by have := (List.getElem?_eq_some_iff.1 hx).1; rw [LN.out] at this; omega⟩⟩
  case round =>
    obtain ⟨lo, hi, rfl, rfl, hlh, hin, hkx, HG, I⟩ := hrel
    generalize wr = w2 at *
    have hb0 : ∀ z os, (Sort.grow (w2.drewN z) os).cell? ⟨w.heap.size, 0, none⟩ = some (.int .i64 cl) := fun z os => (K0.out.below (HG.out.trans ⟨z, os, rfl⟩).below).cell 0 _ rfl
    have hb1 : ∀ z os, (Sort.grow (w2.drewN z) os).cell? ⟨w.heap.size, 1, none⟩ = some (.int .i64 vl) := fun z os => (K0.out.below (HG.out.trans ⟨z, os, rfl⟩).below).cell 1 _ rfl
    by_cases hlt : lo < hi
    · obtain ⟨mid, hmid⟩ : ∃ k, (lo + hi) / 2 = k := ⟨_, rfl⟩
      have hm1 : lo ≤ mid := by omega
      have hm2 : mid < hi := by omega
      have hm3 : mid < n := by omega
      have hmz : ((lo : Int) + (hi : Int)) / 2 = (mid : Int) := by omega
      obtain ⟨b1, off, ⟨cx, vx⟩, rfl, hx, c0, c1⟩ := at_write (HR.out.below (G0.out.trans HG.out).below) mid hm3
      have HX := Lib.hid hx
      have hc0 : ∀ z os, (Sort.grow (w2.drewN z) os).cell? ⟨b1, off + mid * 2, none⟩ = some (.int .i64 cx) := fun z os => ((Grew.below ⟨z, os, rfl⟩).cell (cell_lt c0)).trans c0
      have hc1 : ∀ z os, (Sort.grow (w2.drewN z) os).cell? ⟨b1, off + mid * 2 + 1, none⟩ = some (.int .i64 vx) := fun z os => ((Grew.below ⟨z, os, rfl⟩).cell (cell_lt c1)).trans c1
      clear hx hmid
      obtain ⟨v, hv⟩ : ∃ v, cmpS cx cl = v := ⟨_, rfl⟩
      have HV := Lib.hid hv
      have hvc : (cx < cl ∧ v = -1) ∨ (cl ≤ cx ∧ 0 ≤ v) := by
        unfold cmpS at hv
        by_cases h1 : cx < cl
        · rw [if_pos h1] at hv; exact .inl ⟨h1, hv.symm⟩
        · rw [if_neg h1] at hv; split at hv <;> exact .inr ⟨by omega, by omega⟩
      clear hv
      rcases hvc with ⟨hlt2, rfl⟩ | ⟨hge, hv0⟩
      · go_wp2_with fail
        go_quiet_grown (first | (go_at_fn 34; refine Calls.grown_of (bycell_f _ _ _ _ _ _ _ HCB.out HV.out)))
        have HG2 : Hid (Grew w0 (Sort.grow (w2.drewN nq) osq)) := Lib.hid (HG.out.trans ⟨nq, osq, rfl⟩)
        clear hb0 hb1 hc0 hc1
        generalize Sort.grow (w2.drewN nq) osq = w3 at *
        go_wp2
        go_roundg (hi - (mid + 1))
        case measure => omega
        case rel =>
          exact ⟨mid + 1, hi, by go_num, rfl, by omega, hin, Nat.le_refl _, HG2, Lib.hid ⟨fun t x ht hx => by
            rcases Nat.lt_or_ge t mid with h | h
            · have := rise_at L HS.out t mid x _ h hx HX.out; simp only at this; omega
            · obtain rfl : t = mid := by omega
              rw [HX.out] at hx
              injection hx with hx
              subst hx
              exact hlt2, I.out.2⟩⟩
      · have hd1 : decide (v < 0) = false := decide_eq_false (by omega)
        go_wp2_with fail
        go_quiet_grown (first | (go_at_fn 34; refine Calls.grown_of (bycell_f _ _ _ _ _ _ _ HCB.out HV.out)))
        have HG2 : Hid (Grew w0 (Sort.grow (w2.drewN nq) osq)) := Lib.hid (HG.out.trans ⟨nq, osq, rfl⟩)
        clear hb0 hb1 hc0 hc1
        generalize Sort.grow (w2.drewN nq) osq = w3 at *
        go_wp2
        go_roundg (mid - lo)
        case measure => omega
        case rel =>
          exact ⟨lo, mid, rfl, rfl, hm1, by omega, Nat.le_refl _, HG2, Lib.hid ⟨I.out.1, fun t x ht hx => by
            rcases Nat.lt_or_ge mid t with h | h
            · have := rise_at L HS.out mid t _ x h HX.out hx; simp only at this; omega
            · obtain rfl : t = mid := by omega
              rw [HX.out] at hx
              injection hx with hx
              subst hx
              exact hge⟩⟩
    · obtain rfl : hi = lo := by omega
      by_cases hln : hi < n
      · obtain ⟨b1, off, ⟨cx, vx⟩, rfl, hx, c0, c1⟩ := at_write (HR.out.below (G0.out.trans HG.out).below) hi hln
        have HX := Lib.hid hx
        have hc0 : ∀ z os, (Sort.grow (w2.drewN z) os).cell? ⟨b1, off + hi * 2, none⟩ = some (.int .i64 cx) := fun z os => ((Grew.below ⟨z, os, rfl⟩).cell (cell_lt c0)).trans c0
        have hc1 : ∀ z os, (Sort.grow (w2.drewN z) os).cell? ⟨b1, off + hi * 2 + 1, none⟩ = some (.int .i64 vx) := fun z os => ((Grew.below ⟨z, os, rfl⟩).cell (cell_lt c1)).trans c1
        clear hx hlt hkx hlh
        obtain ⟨v, hv⟩ : ∃ v, cmpS cx cl = v := ⟨_, rfl⟩
        have HV := Lib.hid hv
        obtain ⟨f, hf⟩ : ∃ f, (v == 0) = f := ⟨_, rfl⟩
        have HFF : Hid (Found L cl hi f) := Lib.hid (found_mk L cl hi (by rw [LN.out]; omega) I.out.1 I.out.2 f (by
          rw [HX.out, ← hf, ← hv, Bool.eq_iff_iff]
          simp only [beq_iff_eq]
          unfold cmpS
          by_cases h1 : cx < cl
          · rw [if_pos h1]; omega
          · rw [if_neg h1]
            by_cases h2 : cl < cx
            · rw [if_pos h2]; omega
            · rw [if_neg h2]; omega))
        clear hv
        go_wp2_with fail
        go_quiet_grown (first | (go_at_fn 34; refine Calls.grown_of (bycell_f _ _ _ _ _ _ _ HCB.out HV.out)))
        have HG2 : Hid (Grew w0 (Sort.grow (w2.drewN nq) osq)) := Lib.hid (HG.out.trans ⟨nq, osq, rfl⟩)
        clear hb0 hb1 hc0 hc1
        generalize Sort.grow (w2.drewN nq) osq = w3 at *
        go_wp2
        go_ret2
        exact ⟨hi, f, rfl, HFF.out, G0.out.trans HG2.out⟩
      · have HFF : Hid (Found L cl hi false) := Lib.hid (found_mk L cl hi (by rw [LN.out]; omega) I.out.1 I.out.2 false (by
          rw [List.getElem?_eq_none (by rw [LN.out]; omega)]))
        clear hlt hkx hlh hb0 hb1
        go_wp2_with fail
        go_quiet (fail)
        go_wp2
        go_ret2
        exact ⟨hi, false, rfl, HFF.out, by first | exact (G0.out.trans HG.out).drewN _ | exact G0.out.trans HG.out⟩
end Go.Proofs.Ytjmilnfemjnhoaa.Writes
