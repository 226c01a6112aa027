/-
  WHAT THE FUNCTIONS OF THE LAYER sleep RETURN, AS THEY ARE WRITTEN: rightSleeper, Right, find; the library's slices.BinarySearchFunc at []sleep.Sleeper.
-/
import Derived.Test.YtddgdhaioomnnaaGreatSleepCode2
import Derived.Test.YtddgdhaioomnnaaGreatWritesA
import Derived.Shelf.Abstract
namespace Go.Proofs.YtddgdhaioomnnaaGreat.Sleep
open Go.ChangeShapes Go.WideShapes Go.ChangeAt Go.RowKit Mem
open Heap (Write)
open Writes (cmpS RetIG compare_any)

set_option maxRecDepth 100000 in
set_option maxHeartbeats 4000000 in
theorem one_c (x : RawS) (w : World) (b : Bool) (hi : Inner w x) (hl : Lim1 x) (hb : oneB (st x) = b) :
    Calls Tryz.prog 41 #[.agg (cS x)] w (RetB w b) := by
  obtain ⟨who, mode, til, A, n, c, W, B, m, d, T⟩ := x
  have HI : Hid (Inner w ⟨who, mode, til, A, n, c, W, B, m, d, T⟩) := Lib.hid hi
  have HLM : Hid (Lim1 ⟨who, mode, til, A, n, c, W, B, m, d, T⟩) := Lib.hid hl
  have HB0 : Hid (((decide (1 ≤ who ∧ who ≤ 8) && Reads.timeB til) && (watchB W && termB mode W T)) = b) := Lib.hid hb
  clear hi hl hb
  show Calls Tryz.prog 41 #[.agg #[.int .i64 who, .int .i64 mode, .int .i64 til, .slice A n c, .slice B m d]] w (RetB w b)
  obtain ⟨g1, h1⟩ : ∃ g, decide (1 ≤ who ∧ who ≤ 8) = g := ⟨_, rfl⟩
  obtain ⟨g2, h2⟩ : ∃ g, Reads.timeB til = g := ⟨_, rfl⟩
  obtain ⟨g3, h3⟩ : ∃ g, watchB W = g := ⟨_, rfl⟩
  rw [h1, h2, h3] at HB0
  cases g1
  · have HF : Hid (b = false) := Lib.hid (by rw [← HB0.out]; rfl)
    go_enter Tryz.func41, Tryz.ntmps41
    go_wp2_with (go_at_call 60; refine (who_c _ _).mono ?_; rw [h1]; rintro e w' ⟨rfl, rfl⟩)
    go_ret
    exact ⟨ret_bool HF.out.symm, bl_alloc (Below.refl _ _) _⟩
  · cases g2
    · have HF : Hid (b = false) := Lib.hid (by rw [← HB0.out]; rfl)
      go_enter Tryz.func41, Tryz.ntmps41
      go_wp2_with (first | (go_at_call 60; refine (who_c _ _).mono ?_; rw [h1]; rintro e w' ⟨rfl, rfl⟩) | (go_at_call 61; refine (Reads.tick_any _ _).mono ?_; rw [h2]; rintro e w' ⟨rfl, rfl⟩))
      go_ret
      exact ⟨ret_bool HF.out.symm, bl_alloc (Below.refl _ _) _⟩
    · have HBK := Lib.hid (Blk.new w 26 #[.int .i64 who, .int .i64 mode, .int .i64 til, .slice A n c, .slice B m d])
      have HR3 := Lib.hid (watch_c W A n c (w.alloc (.cells #[.int .i64 who, .int .i64 mode, .int .i64 til, .slice A n c, .slice B m d] 26)) g3 (HI.out.1.alloc _) h3)
      clear h3
      cases g3
      · have HF : Hid (b = false) := Lib.hid (by rw [← HB0.out]; rfl)
        go_enter Tryz.func41, Tryz.ntmps41
        go_wp2_with (first | (go_at_call 60; refine (who_c _ _).mono ?_; rw [h1]; rintro e w' ⟨rfl, rfl⟩) | (go_at_call 61; refine (Reads.tick_any _ _).mono ?_; rw [h2]; rintro e w' ⟨rfl, rfl⟩))
        refine HR3.out.mono ?_
        rintro e w2 ⟨rfl, b2⟩
        go_wp2
        go_ret
        exact ⟨ret_bool HF.out.symm, bl_trans (bl_alloc (Below.refl _ _) _) b2⟩
      · have HF : Hid (termB mode W T = b) := Lib.hid (by rw [← HB0.out]; rfl)
        go_enter Tryz.func41, Tryz.ntmps41
        go_wp2_with (first | (go_at_call 60; refine (who_c _ _).mono ?_; rw [h1]; rintro e w' ⟨rfl, rfl⟩) | (go_at_call 61; refine (Reads.tick_any _ _).mono ?_; rw [h2]; rintro e w' ⟨rfl, rfl⟩))
        refine HR3.out.mono ?_
        rintro e w2 ⟨rfl, b2⟩
        have HB2 := Lib.hid (bl_trans (bl_alloc (Below.refl _ _) _) b2)
        have q0 := (HBK.out.below b2).cell 0 _ rfl
        have q1 := (HBK.out.below b2).cell 1 _ rfl
        have q2 := (HBK.out.below b2).cell 2 _ rfl
        have q3 := (HBK.out.below b2).cell 3 _ rfl
        have q4 := (HBK.out.below b2).cell 4 _ rfl
        clear b2
        go_wp2_with fail
        refine (term_c ⟨who, mode, til, A, n, c, W, B, m, d, T⟩ _ b (HI.out.below HB2.out) HLM.out HF.out).mono ?_
        rintro e w3 ⟨rfl, b3⟩
        go_wp2
        go_ret
        exact ⟨rfl, bl_trans HB2.out b3⟩

set_option maxRecDepth 100000 in
set_option maxHeartbeats 4000000 in
theorem right_c (L : List RawS) (A : Option Addr) (n c : Nat) (w : World) (b : Bool) (hr : Sls w A n L) (hn : n ≤ 1000000) (hl : Lim L) (hb : rightB (cc L) = b) :
    Calls Tryz.prog 26 #[.slice A n c] w (RetB w b) := by
  have HL := Lib.hid hr.len
  have HR := Lib.hid hr
  have HB0 := Lib.hid hb
  have HLim := Lib.hid hl
  clear hr hb hl
  go_enter Tryz.func26, Tryz.ntmps26
  go_wp2
  go_loopw [3, 8] (fun v i wr => ∃ (k : Nat) (q : Int), k ≤ n ∧ v = .int .i64 q ∧ i = .int .i64 k ∧ Hid (Below w.heap.size w wr) ∧ Hid (rightB ((cc L).take k) = true) ∧ Hid (lastOr 0 (whos ((cc L).take k)) = q)) (fun _ i _ => n - (intOf i).toNat)
  case atStart => exact ⟨0, 0, Nat.zero_le _, rfl, rfl, Lib.hid (Below.refl _ _), Lib.hid rfl, Lib.hid rfl⟩
  case round =>
    obtain ⟨k, q, hk, rfl, rfl, HB, hall, HQ⟩ := hrel
    generalize wr = w1 at *
    by_cases hlt : k < n
    · obtain ⟨b1, off, ⟨xw, xm, xt, xA, xn, xc, xW, xB, xk, xd, xT⟩, rfl, hx, c0, c1, c2, c3, c4, hin⟩ := (HR.out.below HB.out).at_ k hlt
      have HS := Lib.hid (right_take (cc L) k _ (cc_at L k _ hx))
      have HLA := Lib.hid (last_take Sl.who 0 (cc L) k _ (cc_at L k _ hx))
      have HX1 := Lib.hid (HLim.out.at_ k _ hx)
      have HIN := Lib.hid hin
      have HBK := Lib.hid (Blk.new w1 26 #[.int .i64 xw, .int .i64 xm, .int .i64 xt, .slice xA xn xc, .slice xB xk xd])
      clear hx hin
      obtain ⟨g, hg⟩ : ∃ g, oneB (st ⟨xw, xm, xt, xA, xn, xc, xW, xB, xk, xd, xT⟩) = g := ⟨_, rfl⟩
      have HO := Lib.hid (one_c ⟨xw, xm, xt, xA, xn, xc, xW, xB, xk, xd, xT⟩ (w1.alloc (.cells #[.int .i64 xw, .int .i64 xm, .int .i64 xt, .slice xA xn xc, .slice xB xk xd] 26)) g (HIN.out.alloc _) HX1.out hg)
      have HG := Lib.hid hg
      clear hg
      cases g
      · have HF : Hid (b = false) := Lib.hid (by rw [← HB0.out]; exact right_bad (cc L) (k + 1) (by rw [HS.out, HG.out]; simp))
        go_wp2_with fail
        refine HO.out.mono ?_
        rintro e w2 ⟨rfl, b2⟩
        go_wp2
        go_ret
        exact ⟨ret_bool HF.out.symm, bl_trans (bl_alloc HB.out _) b2⟩
      · by_cases h1 : xw ≤ q
        · have HF : Hid (b = false) := Lib.hid (by rw [← HB0.out]; exact right_bad (cc L) (k + 1) (by rw [HS.out, HQ.out, decide_eq_false (by show ¬ q < xw; omega)]; simp))
          go_wp2_with fail
          refine HO.out.mono ?_
          rintro e w2 ⟨rfl, b2⟩
          have q0 := (HBK.out.below b2).cell 0 _ rfl
          have HB2 := Lib.hid (bl_trans (bl_alloc HB.out _) b2)
          clear b2
          go_wp2
          go_ret
          exact ⟨ret_bool HF.out.symm, HB2.out⟩
        · have HF : Hid (rightB ((cc L).take (k + 1)) = true) := Lib.hid (by rw [HS.out, hall.out, HG.out, HQ.out, decide_eq_true (by show q < xw; omega)]; rfl)
          go_wp2_with fail
          refine HO.out.mono ?_
          rintro e w2 ⟨rfl, b2⟩
          have q0 := (HBK.out.below b2).cell 0 _ rfl
          have HB2 := Lib.hid (bl_trans (bl_alloc HB.out _) b2)
          clear b2
          go_wp2
          go_roundw
          case rel => exact ⟨k + 1, xw, by omega, rfl, by go_num, HB2, HF, HLA⟩
          case measure => simp [intOf]; omega
    · obtain rfl : k = n := by omega
      have HF : Hid (b = true) := Lib.hid (by
        rw [← HB0.out]; have h5 := hall.out; rwa [List.take_of_length_le (by rw [cc_len, HL.out]; exact Nat.le_refl _)] at h5)
      go_wp2
      go_ret
      exact ⟨ret_bool HF.out.symm, HB.out⟩

set_option maxRecDepth 100000 in
theorem bywho_f (x : RawS) (cl : Int) (w : World) (v : Int) (cb : Array Value) (hcb : cb = #[]) (hv : cmpS x.who cl = v) :
    Calls Tryz.prog 57 (#[.agg (cS x), .int .i64 cl] ++ cb) w (RetIG w v) := by
  subst hcb hv
  show Calls Tryz.prog 57 #[.agg #[.int .i64 x.who, .int .i64 x.mode, .int .i64 x.til, .slice x.A x.n x.c, .slice x.B x.m x.d], .int .i64 cl] w (RetIG w _)
  go_enter Tryz.func57, Tryz.ntmps57
  go_wp2_with (go_at_call 58; refine (compare_any _ _ _).mono ?_; rintro e w' ⟨rfl, rfl⟩)
  go_ret
  exact ⟨rfl, (Grew.refl w).alloc _⟩

set_option maxRecDepth 100000 in
set_option maxHeartbeats 4000000 in
theorem search_g (L : List RawS) (A : Option Addr) (n c : Nat) (cl : Int) (w : World) (cb : Array Value) (hcb : cb = #[]) (hr : Sls w A n L) (hn : n ≤ 1000000) (hs : rightB (cc L) = true) :
    Calls Tryz.prog 56 #[.slice A n c, .int .i64 cl, .func (.func 57) #[] cb] w
      fun e w' => ∃ (p : Nat) (f : Bool), e = .returned (.tuple #[.int .i64 (p : Int), .bool f]) ∧ Found (cc L) cl p f ∧ Grew w w' := by
  have HR := Lib.hid hr
  have LN := Lib.hid hr.len
  have HS := Lib.hid hs
  have HCB := Lib.hid hcb
  clear hr hs hcb
  have eg : ∀ args w, (callFunc 57 args).run Tryz.prog w = .ok (.enter 57 args) w := enters_of Tryz.func57 (by kernel_rfl) rfl
  have hmix : Tryz.prog.follows .mixedOrders = true := by kernel_rfl
  go_enter Tryz.func56, Tryz.ntmps56
  go_wp2
  go_loopg [9, 10] n (fun kx s9 s10 wr => ∃ lo hi : Nat, s9 = .int .i64 lo ∧ s10 = .int .i64 hi ∧ lo ≤ hi ∧ hi ≤ n ∧ hi - lo ≤ kx ∧ Hid (Grew w wr) ∧
    Hid ((∀ (t : Nat) (x : RawS), t < lo → L[t]? = some x → x.who < cl) ∧ (∀ (t : Nat) (x : RawS), hi ≤ t → L[t]? = some x → cl ≤ x.who)))
  case atStart => exact ⟨0, n, rfl, rfl, Nat.zero_le _, Nat.le_refl _, by omega, Lib.hid (Grew.refl _), Lib.hid ⟨fun t x h => by omega, fun t x h hx => by have := (List.getElem?_eq_some_iff.1 hx).1; rw [LN.out] at this; omega⟩⟩
  case round =>
    obtain ⟨lo, hi, rfl, rfl, hlh, hin, hkx, HG, I⟩ := hrel
    generalize wr = w2 at *
    have rise : Hid (∀ (i j : Nat) (x y : RawS), i < j → L[i]? = some x → L[j]? = some y → x.who < y.who) := Lib.hid (fun i j x y hij hx hy => right_at (cc L) HS.out i j hij _ _ (cc_at L i x hx) (cc_at L j y hy))
    have fin : Hid (∀ (p : Nat) (f : Bool), p ≤ n → (∀ (t : Nat) (x : RawS), t < p → L[t]? = some x → x.who < cl) → (∀ (t : Nat) (x : RawS), p ≤ t → L[t]? = some x → cl ≤ x.who) → (match L[p]? with | some y => (y.who == cl) | none => false) = f → Found (cc L) cl p f) := Lib.hid (by
      intro p f hp h1 h2 hf
      refine found_mk _ _ _ (by rw [cc_len, LN.out]; exact hp) (fun t s ht hs => ?_) (fun t s ht hs => ?_) _ ?_
      · obtain ⟨x, hx, rfl⟩ := cc_get L t s hs; exact h1 t x ht hx
      · obtain ⟨x, hx, rfl⟩ := cc_get L t s hs; exact h2 t x ht hx
      · rw [← hf]
        unfold cc
        rw [List.getElem?_map]
        cases L[p]? <;> rfl)
    by_cases hlt : lo < hi
    · obtain ⟨mid, hmid⟩ : ∃ k, (lo + hi) / 2 = k := ⟨_, rfl⟩
      have hm1 : lo ≤ mid := by omega
      have hm2 : mid < hi := by omega
      have hm3 : mid < n := by omega
      have hmz : ((lo : Int) + (hi : Int)) / 2 = (mid : Int) := by omega
      obtain ⟨b1, off, ⟨xw, xm, xt, xA, xn, xc, xW, xB, xk, xd, xT⟩, rfl, hx, c0, c1, c2, c3, c4, hin_⟩ := (HR.out.below HG.out.below).at_ mid hm3
      have HX := Lib.hid hx
      clear hx hmid hin_
      obtain ⟨v, hv⟩ : ∃ v, cmpS xw cl = v := ⟨_, rfl⟩
      have HV := Lib.hid hv
      have hvc : (xw < cl ∧ v = -1) ∨ (cl ≤ xw ∧ 0 ≤ v) := by
        unfold cmpS at hv
        by_cases h1 : xw < cl
        · rw [if_pos h1] at hv; exact .inl ⟨h1, hv.symm⟩
        · rw [if_neg h1] at hv; split at hv <;> exact .inr ⟨by omega, by omega⟩
      clear hv
      rcases hvc with ⟨hlt2, rfl⟩ | ⟨hge, hv0⟩
      · go_wp2_with fail
        refine (bywho_f ⟨xw, xm, xt, xA, xn, xc, xW, xB, xk, xd, xT⟩ _ _ _ _ HCB.out HV.out).mono ?_
        rintro e w3 ⟨rfl, g3⟩
        have HG2 : Hid (Grew w w3) := Lib.hid (HG.out.trans g3)
        clear g3
        go_wp2
        go_roundg (hi - (mid + 1))
        case measure => omega
        case rel =>
          exact ⟨mid + 1, hi, by go_num, rfl, by omega, hin, Nat.le_refl _, HG2, Lib.hid ⟨fun t x ht hx => by
            rcases Nat.lt_or_ge t mid with h | h
            · have := rise.out t mid x _ h hx HX.out; simp only at this; omega
            · obtain rfl : t = mid := by omega
              rw [HX.out] at hx
              injection hx with hx
              subst hx
              exact hlt2, I.out.2⟩⟩
      · have hd1 : decide (v < 0) = false := decide_eq_false (by omega)
        go_wp2_with fail
        refine (bywho_f ⟨xw, xm, xt, xA, xn, xc, xW, xB, xk, xd, xT⟩ _ _ _ _ HCB.out HV.out).mono ?_
        rintro e w3 ⟨rfl, g3⟩
        have HG2 : Hid (Grew w w3) := Lib.hid (HG.out.trans g3)
        clear g3
        go_wp2
        go_roundg (mid - lo)
        case measure => omega
        case rel =>
          exact ⟨lo, mid, rfl, rfl, hm1, by omega, Nat.le_refl _, HG2, Lib.hid ⟨I.out.1, fun t x ht hx => by
            rcases Nat.lt_or_ge mid t with h | h
            · have := rise.out mid t _ x h HX.out hx; simp only at this; omega
            · obtain rfl : t = mid := by omega
              rw [HX.out] at hx
              injection hx with hx
              subst hx
              exact hge⟩⟩
    · obtain rfl : hi = lo := by omega
      by_cases hln : hi < n
      · obtain ⟨b1, off, ⟨xw, xm, xt, xA, xn, xc, xW, xB, xk, xd, xT⟩, rfl, hx, c0, c1, c2, c3, c4, hin_⟩ := (HR.out.below HG.out.below).at_ hi hln
        have HX := Lib.hid hx
        clear hx hlt hkx hlh hin_
        obtain ⟨v, hv⟩ : ∃ v, cmpS xw cl = v := ⟨_, rfl⟩
        have HV := Lib.hid hv
        obtain ⟨f, hf⟩ : ∃ f, (v == 0) = f := ⟨_, rfl⟩
        have HFF : Hid (Found (cc L) cl hi f) := Lib.hid (fin.out hi f (by omega) I.out.1 I.out.2 (by
          rw [HX.out, ← hf, ← hv, Bool.eq_iff_iff]
          simp only [beq_iff_eq]
          unfold cmpS
          by_cases h1 : xw < cl
          · rw [if_pos h1]; omega
          · rw [if_neg h1]
            by_cases h2 : cl < xw
            · rw [if_pos h2]; omega
            · rw [if_neg h2]; omega))
        clear hv
        go_wp2_with fail
        refine (bywho_f ⟨xw, xm, xt, xA, xn, xc, xW, xB, xk, xd, xT⟩ _ _ _ _ HCB.out HV.out).mono ?_
        rintro e w3 ⟨rfl, g3⟩
        have HG2 : Hid (Grew w w3) := Lib.hid (HG.out.trans g3)
        clear g3
        go_wp2
        go_ret2
        exact ⟨hi, f, rfl, HFF.out, HG2.out⟩
      · have HFF : Hid (Found (cc L) cl hi false) := Lib.hid (fin.out hi false (by omega) I.out.1 I.out.2 (by
          rw [List.getElem?_eq_none (by rw [LN.out]; omega)]))
        clear hlt hkx hlh
        go_wp2_with fail
        go_ret2
        exact ⟨hi, false, rfl, HFF.out, by first | exact HG.out.drewN _ | exact HG.out⟩
/-- What is returned: a place, and whether that one is there. -/
def RetF (w : World) (S : List Sl) (cl : Int) (f : Bool) (e : Ending) (w' : World) : Prop := ∃ p : Nat, e = .returned (.tuple #[.int .i64 (p : Int), .bool f]) ∧ Found S cl p f ∧ Below w.heap.size w w'
set_option maxRecDepth 100000 in
theorem find_c (L : List RawS) (A : Option Addr) (n c : Nat) (cl : Int) (w : World) (f : Bool) (hr : Sls w A n L) (hn : n ≤ 1000000) (hs : rightB (cc L) = true) (hf : hasB (cc L) cl = f) :
    Calls Tryz.prog 37 #[.slice A n c, .int .i64 cl] w (RetF w (cc L) cl f) := by
  have HS := Lib.hid (search_g L A n c cl w #[] rfl hr hn hs)
  have HF : Hid (∀ p g, Found (cc L) cl p g → g = f) := Lib.hid (fun p g h => by rw [← hf]; exact (found_has _ _ _ _ hs h).symm)
  clear hr hs hf
  go_enter Tryz.func37, Tryz.ntmps37
  go_wp2_with fail
  refine HS.out.mono ?_
  rintro e w2 ⟨p, g, rfl, h1, h2⟩
  obtain rfl := HF.out p g h1
  have H1 := Lib.hid h1
  have HB := Lib.hid h2.below
  clear h1 h2 HF
  go_wp2
  go_ret2
  exact ⟨p, rfl, H1.out, HB.out⟩
end Go.Proofs.YtddgdhaioomnnaaGreat.Sleep
