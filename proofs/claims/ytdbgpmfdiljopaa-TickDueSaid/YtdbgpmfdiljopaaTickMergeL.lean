/-
  ONE PLACE AHEAD OF A SORTED STRETCH IS PUT WHERE IT BELONGS (slices.symMergeCmpFunc, where the first stretch has one place). No conditions beyond those that the theorem states.
-/
import Derived.Test.YtdbgpmfdiljopaaTickCut
namespace Go.Proofs.Ytdbgpmfdiljopaa.Tick
open Go.ChangeShapes Go.WideShapes Go.ChangeAt Go.RowKit Mem

set_option maxRecDepth 100000 in
set_option maxHeartbeats 8000000 in
theorem merge_left (l : List Int) (w0 : World) (cb : Array Value) (hC : Cmp l w0 cb) (g q cap a m b x : Nat) (P R Q : List Nat) (W : World) (hRw : Rw w0 g q cap (P ++ (x :: (R ++ Q))) W) (hq : q ≤ 1000000)
    (ha : P.length = a) (hm : a + 1 = m) (hb : m + R.length = b) (hR : R.Pairwise (bef l)) (hlt : ∀ y ∈ R, x < y) (hx : x < l.length) (hl : ∀ y ∈ R, y < l.length) :
    Calls Try.prog 26 #[.slice (some ⟨g, 0, none⟩) q cap, .int .i64 a, .int .i64 m, .int .i64 b, .func (.func 21) #[] cb] W fun e w' =>
      e = .returned (.tuple #[]) ∧ ∃ M', Rw w0 g q cap (P ++ (M' ++ Q)) w' ∧ M'.Pairwise (bef l) ∧ M'.Perm (x :: R) := by
  have eg : ∀ args w, (callFunc 21 args).run Try.prog w = .ok (.enter 21 args) w := enters_of Try.func21 (by kernel_rfl) rfl
  have hbq : b ≤ q := by have := hRw.len; simp at this; omega
  have hmb : m ≤ b := by omega
  have haq : a < q := by omega
  have e0 : (m : Int) - (a : Int) = 1 := by omega
  have HC := Lib.hid hC
  have HRS := Lib.hid hR
  have HLT := Lib.hid hlt
  have HL := Lib.hid hl
  have HB := Lib.hid hb
  have HA := Lib.hid ha
  have HM := Lib.hid hm
  have HRw := Lib.hid hRw
  have HBS : Hid (Bs l x R (m - m) (b - m)) := Lib.hid (by
    have := Bs.start l x R
    rwa [show m - m = 0 by omega, show b - m = R.length by omega])
  clear hC hR hlt hl hb ha hRw hm
  go_enter Try.func26, Try.ntmps26
  go_wp2
  go_loopw [10, 11] (fun s t wr => ∃ i j : Nat, s = .int .i64 i ∧ t = .int .i64 j ∧ m ≤ i ∧ i ≤ j ∧ j ≤ b ∧ Hid (Bs l x R (i - m) (j - m)) ∧ Hid (Rw w0 g q cap (P ++ (x :: (R ++ Q))) wr)) (fun s t _ => (intOf t).toNat - (intOf s).toNat)
  case atStart => exact ⟨m, b, rfl, rfl, Nat.le_refl _, hmb, Nat.le_refl _, HBS, HRw⟩
  case round =>
    obtain ⟨i, j, rfl, rfl, hmi, hij, hjb, HI, HR⟩ := hrel
    clear HBS HRw
    by_cases hlt : i < j
    · have hltz : (i : Int) < (j : Int) := by omega
      obtain ⟨h, hh⟩ : ∃ h, (i + j) / 2 = h := ⟨_, rfl⟩
      have eh : ((i : Int) + (j : Int)) / 2 = (h : Int) := by omega
      have hhi : i ≤ h := by omega
      have hhj : h < j := by omega
      clear hh
      obtain ⟨y, hy⟩ : ∃ y, R[h - m]? = some y := ⟨_, List.getElem?_eq_getElem (by have := HB.out; omega)⟩
      have ca := HR.out.cell a x (at_app P _ x a HA.out)
      have cd := HR.out.cell h y (by
        obtain ⟨h1, rfl⟩ := List.getElem?_eq_some_iff.1 hy
        have e : P ++ (x :: (R ++ Q)) = (P ++ x :: R) ++ Q := by simp
        rw [e, List.getElem?_append_left (by have := HA.out; have := HB.out; have := HM.out; simp; omega)]
        have e2 : P ++ x :: R = (P ++ [x]) ++ R := by simp
        have := HA.out
        have := HM.out
        rw [e2, List.getElem?_append_right (by simp; omega), ← hy]
        congr 1
        simp; omega)
      have hyR := List.mem_of_getElem? hy
      have hxy := HLT.out y hyR
      have hc := HC.out.at_ HR.out y x (HL.out y hyR) hx
      have ba : (a : Int) < (q : Int) := by omega
      have bd : (h : Int) < (q : Int) := by omega
      have HY := Lib.hid hy
      clear hy hyR
      by_cases hv : tm l y < tm l x
      · have hv1 := cmpS_lt _ _ hv
        have HN : Hid (Bs l x R (h + 1 - m) (j - m)) := Lib.hid (by
          rw [show h + 1 - m = h - m + 1 by omega]
          exact HI.out.lo HRS.out _ _ HY.out ((bef_less l x y hxy).2 hv))
        generalize cmpS (tm l y) (tm l x) = v at hc hv1
        have hd1 : decide (v < 0) = true := decide_eq_true hv1
        clear hv hxy
        go_wp2_with fail
        go_quiet (first | (go_at_fn 21; refine Calls.quiet_of (hc _)))
        have HR2 := Lib.hid (HR.out.drewN nq)
        clear ca cd hc HR
        generalize wr.drewN nq = w3 at *
        go_wp2
        go_roundw
        case rel => exact ⟨h + 1, j, by go_num, rfl, by omega, by omega, hjb, HN, HR2⟩
        case measure => simp [intOf]; omega
      · have hv1 := cmpS_ge _ _ hv
        have HN : Hid (Bs l x R (i - m) (h - m)) := Lib.hid (HI.out.hi HRS.out _ _ HY.out ((bef_not l x y hxy).2 hv))
        generalize cmpS (tm l y) (tm l x) = v at hc hv1
        have hd1 : decide (v < 0) = false := decide_eq_false hv1
        clear hv hxy
        go_wp2_with fail
        go_quiet (first | (go_at_fn 21; refine Calls.quiet_of (hc _)))
        have HR2 := Lib.hid (HR.out.drewN nq)
        clear ca cd hc HR
        generalize wr.drewN nq = w3 at *
        go_wp2
        go_roundw
        case rel => exact ⟨i, h, rfl, by go_num, hmi, hhi, by omega, HN, HR2⟩
        case measure => simp [intOf]; omega
    · have hji : j = i := by omega
      subst hji
      have HO := Lib.hid (HI.out.out HRS.out)
      obtain ⟨ip, hip⟩ : ∃ p, p + 1 = j := ⟨j - 1, by omega⟩
      have zip : (j : Int) = (ip : Int) + 1 := by omega
      have hia : a ≤ ip := by have := HM.out; omega
      have HJ : Hid (j - m = ip - a ∧ ip - a ≤ R.length ∧ ip < q) := Lib.hid (by have := HM.out; have := HB.out; omega)
      have HR2 : Hid (Rw w0 g q cap (P ++ (R.take (a - a) ++ x :: (R.drop (a - a) ++ Q))) wr) := Lib.hid (by rw [Nat.sub_self]; exact HR.out)
      clear HI HR
      generalize wr = w2 at *
      go_wp2
      go_loopw [13] (fun s wr => ∃ k : Nat, s = .int .i64 k ∧ a ≤ k ∧ k ≤ ip ∧ Hid (Rw w0 g q cap (P ++ (R.take (k - a) ++ x :: (R.drop (k - a) ++ Q))) wr)) (fun s _ => ip - (intOf s).toNat)
      case atStart => exact ⟨a, rfl, Nat.le_refl _, hia, HR2⟩
      case round =>
        obtain ⟨k, rfl, hak, hkp, HK⟩ := hrel
        clear HR2
        by_cases hlt2 : k < ip
        · have hltz : (k : Int) < (ip : Int) := by omega
          have hkR : k - a < R.length := by have := HJ.out; omega
          obtain ⟨y, hy⟩ : ∃ y, R[k - a]? = some y := ⟨_, List.getElem?_eq_getElem hkR⟩
          have hdr : R.drop (k - a) = y :: R.drop (k + 1 - a) := by
            obtain ⟨h1, rfl⟩ := List.getElem?_eq_some_iff.1 hy
            rw [List.drop_eq_getElem_cons h1, show k + 1 - a = k - a + 1 by omega]
          have htk : R.take (k + 1 - a) = R.take (k - a) ++ [y] := by
            rw [show k + 1 - a = k - a + 1 by omega, List.take_add_one, hy]; rfl
          have hA : (P ++ R.take (k - a)).length = k := by rw [List.length_append, HA.out, List.length_take]; omega
          obtain ⟨k1, hk1⟩ : ∃ k1, k + 1 = k1 := ⟨_, rfl⟩
          have hA2 : (P ++ R.take (k - a)).length + 1 + ([] : List Nat).length = k1 := by rw [hA]; exact hk1
          have hrow : P ++ (R.take (k - a) ++ x :: (R.drop (k - a) ++ Q)) = (P ++ R.take (k - a)) ++ x :: ([] ++ y :: (R.drop (k + 1 - a) ++ Q)) := by rw [hdr]; simp
          rw [hrow] at HK
          have HSW : Hid (Rw w0 g q cap (P ++ (R.take (k1 - a) ++ x :: (R.drop (k1 - a) ++ Q))) ((wr.setCell ⟨g, k, none⟩ (.int .i64 (y : Int))).setCell ⟨g, k1, none⟩ (.int .i64 (x : Int))).drew) := Lib.hid (by
            subst hk1
            have h3 := HK.out.swap k (k + 1) x y
            rw [swap_app _ _ _ x y k (k + 1) hA hA2] at h3
            rw [htk]
            simpa using h3)
          have ca := HK.out.cell k x (at_app _ _ x _ hA)
          have cd := HK.out.cell k1 y (at_app2 _ _ _ x y _ hA2)
          have fa := HK.out.frozen k
          have fb := HK.out.frozen k1
          have hjq := HJ.out.2.2
          obtain ⟨u, cc⟩ := HK.out.second k k1 y (by omega)
          have ea : ((k : Int) + 1).toNat = k1 := by omega
          have pa : (0 : Int) ≤ (k : Int) + 1 := by omega
          have ba : (k : Int) + 1 < (q : Int) := by omega
          have bd : (k : Int) < (q : Int) := by omega
          have HK1 := Lib.hid hk1
          clear HK hrow hA hA2 htk hdr hy hkR hk1
          go_wp2_with fail
          go_big_region
          clear ca cd cc fa fb
          generalize ((wr.setCell ⟨g, k, none⟩ (.int .i64 (y : Int))).setCell ⟨g, k1, none⟩ (.int .i64 (x : Int))).drew = w4 at *
          go_wp2
          go_roundw
          case rel => exact ⟨k1, by have := HK1.out; subst this; go_num, by have := HK1.out; omega, by have := HK1.out; omega, HSW⟩
          case measure => simp [intOf]; omega
        · have hke : k = ip := by omega
          subst hke
          have hltz : ¬ (k : Int) < (k : Int) := by omega
          have hj := HJ.out.1
          have HO2 : Hid ((R.take (k - a) ++ x :: R.drop (k - a)).Pairwise (bef l)) := Lib.hid (by rw [← hj]; exact HO.out)
          clear hj
          go_wp2
          (try simp only [Exit.inBlock, Exit.then]); refine bodyPost_ret (results_none rfl _ _ _) rfl ?_
          exact ⟨rfl, R.take (k - a) ++ x :: R.drop (k - a), by simpa using HK.out, HO2.out, cut_perm x R _⟩
end Go.Proofs.Ytdbgpmfdiljopaa.Tick
