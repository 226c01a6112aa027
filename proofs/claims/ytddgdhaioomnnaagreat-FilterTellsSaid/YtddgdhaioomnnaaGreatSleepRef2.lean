/-
  WHAT THE DOCUMENT'S ANSWER FOR LAYER 15 RETURNS: Right, Find, Add.
-/
import Derived.Test.YtddgdhaioomnnaaGreatSleepRef
import Derived.Test.YtddgdhaioomnnaaGreatMemA
import Derived.Deep.RegionHeld3
namespace Go.Proofs.YtddgdhaioomnnaaGreat.Sleep
open Go.ChangeShapes Go.WideShapes Go.ChangeAt Go.RowKit Mem
open Heap (Write)

theorem tRSleeper : SliceT Tryz.prog 30 44 5 72 := SliceT.mk_ (z := .agg #[.int .i64 0, .int .i64 0, .int .i64 0, .slice none 0 0, .slice none 0 0]) Tryz.underlying30 (by kernel_rfl) rfl (by decide)
set_option maxRecDepth 100000 in
set_option maxHeartbeats 4000000 in
theorem refright (L : List RawS) (A : Option Addr) (n c : Nat) (w : World) (b : Bool) (hr : Sls w A n L) (hn : n ≤ 1000000) (hl : Lim L) (hb : rightB (cc L) = b) :
    Calls Tryz.prog 18 #[.slice A n c] w (RetB w b) := by
  have HL := Lib.hid hr.len
  have HR := Lib.hid hr
  have HB0 := Lib.hid hb
  have HLim := Lib.hid hl
  clear hr hb hl
  go_enter Tryz.func18, Tryz.ntmps18
  go_wp2
  go_loopw [3] (fun i wr => ∃ (k : Nat), k ≤ n ∧ i = .int .i64 k ∧ Hid (Below w.heap.size w wr) ∧ Hid (rightB ((cc L).take k) = true)) (fun i _ => n - (intOf i).toNat)
  case atStart => exact ⟨0, Nat.zero_le _, rfl, Lib.hid (Below.refl _ _), Lib.hid rfl⟩
  case round =>
    obtain ⟨k, hk, rfl, HB, hall⟩ := hrel
    generalize wr = w1 at *
    by_cases hlt : k < n
    · obtain ⟨b1, off, ⟨xw, xm, xt, xA, xn, xc, xW, xB, xk, xd, xT⟩, rfl, hx, c0, c1, c2, c3, c4, hin⟩ := (HR.out.below HB.out).at_ k hlt
      have HS := Lib.hid (right_take (cc L) k _ (cc_at L k _ hx))
      have HX := Lib.hid hx
      obtain ⟨g, hg⟩ : ∃ g, oneB (st ⟨xw, xm, xt, xA, xn, xc, xW, xB, xk, xd, xT⟩) = g := ⟨_, rfl⟩
      have HO := Lib.hid (refone_c ⟨xw, xm, xt, xA, xn, xc, xW, xB, xk, xd, xT⟩ w1 g hin (HLim.out.at_ k _ hx) hg)
      have HG := Lib.hid hg
      have bad : Hid (rightB ((cc L).take (k + 1)) = false → b = false) := Lib.hid (fun h => by rw [← HB0.out]; exact right_bad (cc L) (k + 1) h)
      simp only [cS] at HO
      clear hx hin hg
      cases g
      · have HF : Hid (b = false) := Lib.hid (bad.out (by rw [HS.out, HG.out]; simp))
        go_wp2_with fail
        refine HO.out.mono ?_
        rintro e w2 ⟨rfl, b2⟩
        have HB2 := Lib.hid (bl_trans HB.out b2)
        clear b2 HO c0 c1 c2 c3 c4
        go_wp2_with fail
        go_quiet (fail)
        go_wp2
        go_ret
        exact ⟨ret_bool HF.out.symm, bl_drewN HB2.out _⟩
      · have ho := one_who _ HG.out
        have hxw : 1 ≤ xw := ho.1
        rcases Nat.eq_zero_or_pos k with hk0 | hk0
        · subst hk0
          have HY : Hid (rightB ((cc L).take (0 + 1)) = true) := Lib.hid (by rw [HS.out, hall.out, HG.out, decide_eq_true (by show (0 : Int) < xw; omega)]; rfl)
          have g0 : decide ((0 : Int) < ((0 : Nat) : Int)) = false := by decide
          replace c0 : w1.cell? ⟨b1, off, none⟩ = some (.int .i64 xw) := by simpa using c0
          replace c1 : w1.cell? ⟨b1, off + 1, none⟩ = some (.int .i64 xm) := by simpa using c1
          replace c2 : w1.cell? ⟨b1, off + 2, none⟩ = some (.int .i64 xt) := by simpa using c2
          replace c3 : w1.cell? ⟨b1, off + 3, none⟩ = some (.slice xA xn xc) := by simpa using c3
          replace c4 : w1.cell? ⟨b1, off + 4, none⟩ = some (.slice xB xk xd) := by simpa using c4
          clear ho
          go_wp2_with fail
          refine HO.out.mono ?_
          rintro e w2 ⟨rfl, b2⟩
          have HB2 := Lib.hid (bl_trans HB.out b2)
          clear b2 HO c0 c1 c2 c3 c4
          go_wp2_with fail
          go_quiet (fail)
          go_wp2
          go_roundw
          case rel => exact ⟨1, by omega, by go_num, Lib.hid (bl_drewN HB2.out _), HY⟩
          case measure => simp [intOf]; omega
        · obtain ⟨j, hkj⟩ : ∃ j, k = j + 1 := ⟨k - 1, by omega⟩
          obtain ⟨b5, off5, ⟨yw, ym, yt, yA, yn, yc, yW, yB, yk, yd, yT⟩, e5, hy, d0, d1, d2, d3, d4, -⟩ := (HR.out.below HB.out).at_ j (by omega)
          injection e5 with e5
          injection e5 with e6 e7
          subst e6 e7
          have HLA : Hid (lastOr 0 (whos ((cc L).take k)) = yw) := Lib.hid (by rw [hkj]; exact last_take Sl.who 0 (cc L) j _ (cc_at L j _ hy))
          have g0 : (k : Int) - 1 = (j : Int) := by omega
          have g1 : (0 : Int) < (k : Int) := by omega
          have g2 : (j : Int) < (n : Int) := by omega
          have g3 : IntKind.i64.wrap (j : Int) = (j : Int) := by rw [IntKind.wrap_i64]; omega
          clear hkj hy ho
          by_cases h6 : xw ≤ yw
          · have HF : Hid (b = false) := Lib.hid (bad.out (by rw [HS.out, HLA.out, decide_eq_false (by show ¬ yw < xw; omega)]; simp))
            go_wp2_with fail
            refine HO.out.mono ?_
            rintro e w2 ⟨rfl, b2⟩
            have HB2 := Lib.hid (bl_trans HB.out b2)
            have c0' := (b2.cell (cell_lt c0)).trans c0
            have d0' := (b2.cell (cell_lt d0)).trans d0
            clear b2 HO c0 c1 c2 c3 c4 d0 d1 d2 d3 d4
            go_wp2_with fail
            go_quiet (fail)
            go_wp2
            go_ret
            exact ⟨ret_bool HF.out.symm, bl_drewN HB2.out _⟩
          · have HY : Hid (rightB ((cc L).take (k + 1)) = true) := Lib.hid (by rw [HS.out, hall.out, HG.out, HLA.out, decide_eq_true (by show yw < xw; omega)]; rfl)
            have h6' : decide (xw ≤ yw) = false := by simpa using h6
            clear h6
            go_wp2_with fail
            refine HO.out.mono ?_
            rintro e w2 ⟨rfl, b2⟩
            have HB2 := Lib.hid (bl_trans HB.out b2)
            have c0' := (b2.cell (cell_lt c0)).trans c0
            have d0' := (b2.cell (cell_lt d0)).trans d0
            clear b2 HO c0 c1 c2 c3 c4 d0 d1 d2 d3 d4
            go_wp2_with fail
            go_quiet (fail)
            go_wp2
            go_roundw
            case rel => exact ⟨k + 1, by omega, by go_num, Lib.hid (bl_drewN HB2.out _), HY⟩
            case measure => simp [intOf]; omega
    · obtain rfl : k = n := by omega
      have HF : Hid (b = true) := Lib.hid (by
        rw [← HB0.out]; have h5 := hall.out; rwa [List.take_of_length_le (by rw [cc_len, HL.out]; exact Nat.le_refl _)] at h5)
      go_wp2
      go_ret
      exact ⟨ret_bool HF.out.symm, HB.out⟩

/-- The place of somebody, or -1. -/
def IsAt (L : List RawS) (c p : Int) : Prop := (p = -1 ∧ hasB (cc L) c = false) ∨ ∃ (k : Nat) (x : RawS), p = (k : Nat) ∧ L[k]? = some x ∧ x.who = c ∧ findG (cc L) c = some (st x)
set_option maxRecDepth 100000 in
theorem reffind (L : List RawS) (A : Option Addr) (n c : Nat) (cl : Int) (w : World) (hr : Sls w A n L) (hn : n ≤ 1000000) :
    Calls Tryz.prog 45 #[.slice A n c, .int .i64 cl] w fun e w' => ∃ p, e = .returned (.int .i64 p) ∧ IsAt L cl p ∧ w = w' := by
  have HL := Lib.hid hr.len
  have HR := Lib.hid hr
  clear hr
  go_enter Tryz.func45, Tryz.ntmps45
  go_wp2
  go_loop [5] (fun i => ∃ k : Nat, k ≤ n ∧ i = .int .i64 k ∧ Hid (hasB ((cc L).take k) cl = false)) (fun i => n - (intOf i).toNat)
  case atStart => exact ⟨0, Nat.zero_le _, rfl, Lib.hid rfl⟩
  case round =>
    obtain ⟨k, hk, rfl, hno⟩ := hrel
    by_cases hlt : k < n
    · obtain ⟨b1, off, ⟨xw, xm, xt, xA, xn, xc, xW, xB, xk, xd, xT⟩, rfl, hx, c0, c1, c2, c3, c4, hin⟩ := HR.out.at_ k hlt
      have HX := Lib.hid hx
      have HS := Lib.hid (take_any (cc L) (fun s => s.who == cl) k _ (cc_at L k _ hx))
      clear hx hin c1 c2 c3 c4
      by_cases heq : xw = cl
      · subst heq
        have HIS : Hid (IsAt L xw (k : Int)) := Lib.hid (.inr ⟨k, _, rfl, HX.out, rfl, by
          have h1 := cc_at L k _ HX.out
          obtain ⟨h2, h3⟩ := List.getElem?_eq_some_iff.1 h1
          unfold findG
          conv => lhs; rw [← List.take_append_drop k (cc L), List.drop_eq_getElem_cons h2, h3]
          rw [List.find?_append, List.find?_eq_none.2 (fun y hy e => by
            have h4 := hno.out; unfold hasB at h4; rw [List.any_eq_false] at h4; exact h4 y hy e)]
          simp [List.find?_cons, st]⟩)
        go_wp2
        go_ret
        exact ⟨_, rfl, HIS.out, rfl⟩
      · have heq' : (xw == cl) = false := by simpa using heq
        have HN : Hid (hasB ((cc L).take (k + 1)) cl = false) := Lib.hid (by have := HS.out; unfold hasB at hno ⊢; rw [this, hno.out]; simpa [st] using heq)
        clear heq
        go_wp2
        go_round
        case rel => exact ⟨k + 1, by omega, by go_num, HN⟩
        case measure => simp [intOf]; omega
    · have HN : Hid (hasB (cc L) cl = false) := Lib.hid (by have h5 := hno.out; rwa [List.take_of_length_le (by rw [cc_len, HL.out]; omega)] at h5)
      go_wp2
      go_ret
      exact ⟨_, rfl, .inl ⟨rfl, HN.out⟩, rfl⟩

def lowR (c : Int) (L : List RawS) : List RawS := L.filter (fun x => decide (x.who < c))
def highR (c : Int) (L : List RawS) : List RawS := L.filter (fun x => !decide (x.who < c))
theorem ins_cc (L : List RawS) (x : RawS) : cc (lowR x.who L ++ x :: highR x.who L) = insS (cc L) (st x) := by
  unfold insS cc lowR highR
  rw [List.map_append, List.map_cons, List.filter_map, List.filter_map]
  rfl
theorem filt_take (L : List RawS) (q : RawS → Bool) (k : Nat) (x : RawS) (hx : L[k]? = some x) : (L.take (k + 1)).filter q = (L.take k).filter q ++ (if q x = true then [x] else []) := by
  rw [List.take_add_one, hx, List.filter_append]
  by_cases h : q x = true
  · simp [h]
  · simp [h]
set_option maxRecDepth 100000 in
set_option maxHeartbeats 4000000 in
theorem refadd (L : List RawS) (x : RawS) (A : Option Addr) (n c : Nat) (w : World) (r : List Sl × Int) (hr : Sls w A n L) (hn : n ≤ 1000000) (hl : Lim L) (hi : Inner w x) (hx : Lim1 x) (ha : addS (cc L) (st x) = r) :
    Calls Tryz.prog 24 #[.slice A n c, .agg (cS x)] w (RetP w r) := by
  have HR := Lib.hid hr
  have HLim := Lib.hid hl
  have HLen := Lib.hid hr.len
  have HXL := Lib.hid hx
  have HXI := Lib.hid hi
  have HA := Lib.hid ha
  clear hr hl hx hi ha
  obtain ⟨w1, hw1⟩ : ∃ w1, w1 = w.alloc (.cells (cS x) 44) := ⟨_, rfl⟩
  have HBK : Hid (Blk w1 w.heap.size 44 (cS x)) := Lib.hid (by rw [hw1]; exact Blk.new _ _ _)
  have HB1 : Hid (Below w.heap.size w w1) := Lib.hid (by rw [hw1]; exact bl_alloc (Below.refl _ _) _)
  obtain ⟨b1, h1⟩ : ∃ b, rightB (cc L) = b := ⟨_, rfl⟩
  obtain ⟨b2, h2⟩ : ∃ b, oneB (st x) = b := ⟨_, rfl⟩
  have HINS := Lib.hid (ins_cc L x)
  obtain ⟨xw, xm, xt, xA, xn, xc, xW, xB, xk, xd, xT⟩ := x
  simp only [cS] at HBK hw1 ⊢
  have H1 := Lib.hid h1
  have H2 := Lib.hid h2
  clear h1 h2
  have KEEP : Hid (∀ V, Below w1.heap.size w1 V → V.cell? ⟨w.heap.size, 0, none⟩ = some (.int .i64 xw) ∧ V.cell? ⟨w.heap.size, 1, none⟩ = some (.int .i64 xm) ∧ V.cell? ⟨w.heap.size, 2, none⟩ = some (.int .i64 xt) ∧ V.cell? ⟨w.heap.size, 3, none⟩ = some (.slice xA xn xc) ∧ V.cell? ⟨w.heap.size, 4, none⟩ = some (.slice xB xk xd)) :=
    Lib.hid (fun V h => ⟨(HBK.out.below h).cell 0 _ rfl, (HBK.out.below h).cell 1 _ rfl, (HBK.out.below h).cell 2 _ rfl, (HBK.out.below h).cell 3 _ rfl, (HBK.out.below h).cell 4 _ rfl⟩)
  have bq : Hid (Below w1.heap.size w1 w1.drew) := Lib.hid (Below.refl _ _).drew
  -- what comes back with an error
  have back : Hid (∀ (w3 : World) (f : Int), Below w.heap.size w w3 → r = (cc L, f) → RetP w r (.returned (.tuple #[.slice A n c, .int .i64 f])) w3) := Lib.hid (by
    intro w3 f hb hf
    exact ⟨A, n, c, L, by rw [hf], HR.out.below hb, by rw [hf], HLim.out, hb⟩)
  go_enter Tryz.func24, Tryz.ntmps24
  go_wp2_with fail
  rw [← hw1]
  clear hw1
  go_region_held3 (fun w' => w'.cell? ⟨w.heap.size, 0, none⟩ = some (.int .i64 xw) ∧ w'.cell? ⟨w.heap.size, 1, none⟩ = some (.int .i64 xm) ∧ w'.cell? ⟨w.heap.size, 2, none⟩ = some (.int .i64 xt) ∧ w'.cell? ⟨w.heap.size, 3, none⟩ = some (.slice xA xn xc) ∧ w'.cell? ⟨w.heap.size, 4, none⟩ = some (.slice xB xk xd)) (first | exact KEEP.out _ bq.out | go_keep)
    (first
    | (go_at_call 18
       refine (refright L _ _ _ _ b1 ((HR.out.below HB1.out).below bq.out) hn HLim.out H1.out).mono ?_
       rintro e wq ⟨rfl, b5⟩
       replace bq := Lib.hid (bl_trans bq.out b5)
       clear b5)
    | (go_at_call 29
       refine (refone_c ⟨xw, xm, xt, xA, xn, xc, xW, xB, xk, xd, xT⟩ _ b2 ((HXI.out.below HB1.out).below bq.out) HXL.out H2.out).mono ?_
       rintro e wq ⟨rfl, b5⟩
       replace bq := Lib.hid (bl_trans bq.out b5)
       clear b5))
  all_goals
    have HBQ := Lib.hid (bl_trans HB1.out bq.out)
    cases b1
    · have HF : Hid (r = (cc L, 1)) := Lib.hid (by rw [← HA.out]; unfold addS; rw [H1.out]; rfl)
      go_wp2
      go_ret2
      exact back.out _ 1 HBQ.out HF.out
    · cases b2
      · have HF : Hid (r = (cc L, 1)) := Lib.hid (by rw [← HA.out]; unfold addS; rw [H1.out, H2.out]; rfl)
        go_wp2
        go_ret2
        exact back.out _ 1 HBQ.out HF.out
      · have HK := Lib.hid (KEEP.out _ bq.out)
        have HFC := Lib.hid (reffind L A n c xw _ (HR.out.below HBQ.out) hn)
        clear KEEP
        generalize wq = w2 at *
        obtain ⟨q0, q1, q2, q3, q4⟩ := HK.out
        go_wp2_with fail
        refine HFC.out.mono ?_
        rintro e w3 ⟨p, rfl, hp, rfl⟩
        by_cases hp0 : 0 ≤ p
        · have HF : Hid (r = (cc L, 9)) := Lib.hid (by
            have hh : hasB (cc L) xw = true := by
              rcases hp with ⟨rfl, -⟩ | ⟨k, y, -, hy, hyw, -⟩
              · omega
              · unfold hasB; rw [List.any_eq_true]; exact ⟨st y, List.mem_of_getElem? (cc_at L k y hy), by simpa [st] using hyw⟩
            rw [← HA.out]; unfold addS; rw [H1.out, H2.out]
            rw [if_pos (by rfl), if_pos (by exact hh)])
          clear hp
          go_wp2
          go_ret2
          exact back.out _ 9 HBQ.out HF.out
        · have HF : Hid (r = (insS (cc L) (st ⟨xw, xm, xt, xA, xn, xc, xW, xB, xk, xd, xT⟩), 0)) := Lib.hid (by
            have hh : hasB (cc L) xw = false := by
              rcases hp with ⟨-, h⟩ | ⟨k, y, rfl, hy, -, -⟩
              · exact h
              · omega
            rw [← HA.out]; unfold addS; rw [H1.out, H2.out]
            rw [if_pos (by rfl), if_neg (by show ¬ hasB (cc L) xw = true; rw [hh]; decide)])
          have hp1 : decide (0 ≤ p) = false := by simpa using hp0
          clear hp hp0 HFC
          go_wp2
          go_loopw [8, 9, 10] (fun v u i wr => ∃ (k j m : Nat), k ≤ n ∧ j + m = k ∧ i = .int .i64 k ∧ Hid (Own w2 wr 44 5 v j (ss (lowR xw (L.take k)))) ∧ Hid (Own w2 wr 44 5 u m (ss (highR xw (L.take k)))) ∧ Hid (Apart v u)) (fun _ _ i _ => n - (intOf i).toNat)
          case atStart => exact ⟨0, 0, 0, Nat.zero_le _, rfl, rfl, Lib.hid (Own.nil_ (Below.refl _ _)), Lib.hid (Own.nil_ (Below.refl _ _)), Lib.hid (Apart.nil_ _)⟩
          case round =>
            obtain ⟨k, j, m, hk, hjm, rfl, HLO, HHI, HAP⟩ := hrel
            generalize wr = w4 at *
            have HB4 := Lib.hid (bl_trans HBQ.out HLO.out.2)
            have q0' := (HLO.out.2.cell (cell_lt q0)).trans q0
            have q1' := (HLO.out.2.cell (cell_lt q1)).trans q1
            have q2' := (HLO.out.2.cell (cell_lt q2)).trans q2
            have q3' := (HLO.out.2.cell (cell_lt q3)).trans q3
            have q4' := (HLO.out.2.cell (cell_lt q4)).trans q4
            clear q0 q1 q2 q3 q4
            by_cases hlt : k < n
            · obtain ⟨b9, off, ⟨yw, ym, yt, yA, yn, yc, yW, yB, yk, yd, yT⟩, rfl, hx, c0, c1, c2, c3, c4, hin⟩ := (HR.out.below HB4.out).at_ k hlt
              have HTL := Lib.hid (filt_take L (fun z => decide (z.who < xw)) k _ hx)
              have HTH := Lib.hid (filt_take L (fun z => !decide (z.who < xw)) k _ hx)
              clear hx hin
              by_cases hw : yw < xw
              · have HL2 : Hid (lowR xw (L.take (k + 1)) = lowR xw (L.take k) ++ [⟨yw, ym, yt, yA, yn, yc, yW, yB, yk, yd, yT⟩]) := Lib.hid (by unfold lowR; rw [HTL.out, if_pos (by simpa using hw)])
                have HH2 : Hid (highR xw (L.take (k + 1)) = highR xw (L.take k)) := Lib.hid (by unfold highR; rw [HTH.out, if_neg (by simpa using hw), List.append_nil])
                go_wp2_with fail
                go_quiet (fail)
                have o1 := Lib.hid (HLO.out.below (bl_drewN (Below.refl _ w4) nq))
                have o2 := Lib.hid (HHI.out.below (bl_drewN (Below.refl _ w4) nq))
                go_wp2_with (at_builtin; refine append_at rfl _ _ 30 rfl tRSleeper w2 _ j _ rfl (o1.out.alloc _) _ 1 1 [.int .i64 yw, .int .i64 ym, .int .i64 yt, .slice yA yn yc, .slice yB yk yd] rfl (Rd.builtAt _ 5 1 [.int .i64 yw, .int .i64 ym, .int .i64 yt, .slice yA yn yc, .slice yB yk yd] _ rfl (by simp)) (sc_one ⟨yw, ym, yt, yA, yn, yc, yW, yB, yk, yd, yT⟩) (by omega) (by omega) ?_; intro v9 w9 o9 g9 at9; have HO9 := Lib.hid o9; have HU9 := Lib.hid (Own.beside (o2.out.alloc _) HAP.out (o1.out.alloc _) g9 at9); clear o9 g9 at9)
                go_roundw
                case rel => exact ⟨k + 1, j + 1, m, by omega, by omega, by go_num, Lib.hid (by rw [HL2.out, ss_app]; exact HO9.out), Lib.hid (by rw [HH2.out]; exact HU9.out.1), Lib.hid HU9.out.2⟩
                case measure => simp [intOf]; omega
              · have HL2 : Hid (lowR xw (L.take (k + 1)) = lowR xw (L.take k)) := Lib.hid (by unfold lowR; rw [HTL.out, if_neg (by simpa using hw), List.append_nil])
                have HH2 : Hid (highR xw (L.take (k + 1)) = highR xw (L.take k) ++ [⟨yw, ym, yt, yA, yn, yc, yW, yB, yk, yd, yT⟩]) := Lib.hid (by unfold highR; rw [HTH.out, if_pos (by simpa using hw)])
                have hw' : decide (yw < xw) = false := by simpa using hw
                clear hw
                go_wp2_with fail
                go_quiet (fail)
                have o1 := Lib.hid (HLO.out.below (bl_drewN (Below.refl _ w4) nq))
                have o2 := Lib.hid (HHI.out.below (bl_drewN (Below.refl _ w4) nq))
                go_wp2_with (at_builtin; refine append_at rfl _ _ 30 rfl tRSleeper w2 _ m _ rfl (o2.out.alloc _) _ 1 1 [.int .i64 yw, .int .i64 ym, .int .i64 yt, .slice yA yn yc, .slice yB yk yd] rfl (Rd.builtAt _ 5 1 [.int .i64 yw, .int .i64 ym, .int .i64 yt, .slice yA yn yc, .slice yB yk yd] _ rfl (by simp)) (sc_one ⟨yw, ym, yt, yA, yn, yc, yW, yB, yk, yd, yT⟩) (by omega) (by omega) ?_; intro v9 w9 o9 g9 at9; have HO9 := Lib.hid o9; have HU9 := Lib.hid (Own.beside (o1.out.alloc _) HAP.out.symm (o2.out.alloc _) g9 at9); clear o9 g9 at9)
                go_roundw
                case rel => exact ⟨k + 1, j, m + 1, by omega, by omega, by go_num, Lib.hid (by rw [HL2.out]; exact HU9.out.1), Lib.hid (by rw [HH2.out, ss_app]; exact HO9.out), Lib.hid HU9.out.2.symm⟩
                case measure => simp [intOf]; omega
            · have HTK : Hid (L.take k = L) := Lib.hid (List.take_of_length_le (by rw [HLen.out]; omega))
              rw [HTK.out] at HLO HHI
              obtain ⟨Bu, du, rfl, _⟩ := HHI.out.form
              have hjn : j ≤ 1000000 := by omega
              have hmn : m ≤ 1000000 := by omega
              go_wp2_with (first
                | (at_builtin; refine append_at rfl _ _ 30 rfl tRSleeper w2 _ j _ rfl (HLO.out.alloc _) _ 1 1 [.int .i64 xw, .int .i64 xm, .int .i64 xt, .slice xA xn xc, .slice xB xk xd] rfl (Rd.builtAt _ 5 1 [.int .i64 xw, .int .i64 xm, .int .i64 xt, .slice xA xn xc, .slice xB xk xd] _ rfl (by simp)) (sc_one ⟨xw, xm, xt, xA, xn, xc, xW, xB, xk, xd, xT⟩) (by omega) (by omega) ?_
                   intro v9 w9 o9 g9 at9
                   have HO9 := Lib.hid o9
                   have HU9 := Lib.hid (Own.beside (HHI.out.alloc _) HAP.out (HLO.out.alloc _) g9 at9)
                   obtain ⟨Bh, dh, hvh, hrh⟩ := HU9.out.1.form
                   injection hvh with e1 e2 e3
                   subst e1 e3
                   have HRH := Lib.hid hrh
                   clear o9 g9 at9 hrh e2)
                | (at_builtin; refine append_rd rfl _ _ 30 rfl tRSleeper w2 _ (j + 1) _ rfl HO9.out _ m du (ss (highR xw L)) rfl HRH.out (ss_one _) (by omega) (by omega) ?_
                   intro v8 w8 o8 g8
                   have HO8 := Lib.hid o8
                   clear o8 g8))
              obtain ⟨B8, d8, rfl, hrd⟩ := HO8.out.form
              have HRD := Lib.hid hrd
              clear hrd
              go_ret2
              have HBF := bl_trans HBQ.out HO8.out.2
              have e : ss (lowR xw L) ++ sc ⟨xw, xm, xt, xA, xn, xc, xW, xB, xk, xd, xT⟩ ++ ss (highR xw L) = ss (lowR xw L ++ (⟨xw, xm, xt, xA, xn, xc, xW, xB, xk, xd, xT⟩ : RawS) :: highR xw L) := by rw [ss_app]; show _ = _ ++ (sc _ ++ ss _); rw [List.append_assoc]
              have hmem : ∀ z ∈ lowR xw L ++ (⟨xw, xm, xt, xA, xn, xc, xW, xB, xk, xd, xT⟩ : RawS) :: highR xw L, z ∈ L ∨ z = ⟨xw, xm, xt, xA, xn, xc, xW, xB, xk, xd, xT⟩ := by
                intro z hz
                rcases List.mem_append.1 hz with hz | hz
                · exact .inl (List.mem_filter.1 hz).1
                · rcases List.mem_cons.1 hz with hz | hz
                  · exact .inr hz
                  · exact .inl (List.mem_filter.1 hz).1
              refine ⟨B8, j + 1 + m, d8, lowR xw L ++ (⟨xw, xm, xt, xA, xn, xc, xW, xB, xk, xd, xT⟩ : RawS) :: highR xw L, by rw [HF.out]; rfl, ⟨by rw [← e]; exact HRD.out, ?_⟩, by rw [HF.out]; exact HINS.out, ?_, HBF⟩
              · intro z hz
                rcases hmem z hz with hz | rfl
                · exact (HR.out.2 z hz).below HBF
                · exact HXI.out.below HBF
              · intro z hz
                rcases hmem z hz with hz | rfl
                · exact HLim.out z hz
                · exact HXL.out
end Go.Proofs.YtddgdhaioomnnaaGreat.Sleep
