/-
  ONE PLACE BEHIND A SORTED STRETCH IS PUT WHERE IT BELONGS (slices.symMergeCmpFunc, where the second stretch has one place and the first has more). No conditions beyond those that the theorem states.
-/
import Derived.Test.YtdbgpmfdiljopaaTickCut
namespace Go.Proofs.Ytdbgpmfdiljopaa.Tick
open Go.ChangeShapes Go.WideShapes Go.ChangeAt Go.RowKit Mem

set_option maxRecDepth 100000 in
set_option maxHeartbeats 8000000 in
theorem merge_right (l : List Int) (w0 : World) (cb : Array Value) (hC : Cmp l w0 cb) (g q cap a m b y : Nat) (P L Q : List Nat) (W : World) (hRw : Rw w0 g q cap (P ++ (L ++ y :: Q)) W) (hq : q ≤ 1000000)
    (ha : P.length = a) (hm : a + L.length = m) (hb : m + 1 = b) (h1 : L.length ≠ 1) (hS : L.Pairwise (bef l)) (hlt : ∀ x ∈ L, x < y) (hy : y < l.length) (hl : ∀ x ∈ L, x < l.length) :
    Calls Try.prog 26 #[.slice (some ⟨g, 0, none⟩) q cap, .int .i64 a, .int .i64 m, .int .i64 b, .func (.func 21) #[] cb] W fun e w' =>
      e = .returned (.tuple #[]) ∧ ∃ M', Rw w0 g q cap (P ++ (M' ++ Q)) w' ∧ M'.Pairwise (bef l) ∧ M'.Perm (y :: L) := by
  have eg : ∀ args w, (callFunc 21 args).run Try.prog w = .ok (.enter 21 args) w := enters_of Try.func21 (by kernel_rfl) rfl
  have hbq : b ≤ q := by have := hRw.len; simp at this; omega
  have ham : a ≤ m := by omega
  have hmq : m < q := by omega
  obtain ⟨nl, hnl⟩ : ∃ nl, L.length = nl := ⟨_, rfl⟩
  have e0 : (m : Int) - (a : Int) = (nl : Int) := by omega
  have t0 : ((nl : Int) == 1) = false := by
    have : ¬ (nl : Int) = 1 := by omega
    simpa using this
  have e1 : (b : Int) - (m : Int) = 1 := by omega
  have HC := Lib.hid hC
  have HLS := Lib.hid hS
  have HLT := Lib.hid hlt
  have HL := Lib.hid hl
  have HA := Lib.hid ha
  have HM := Lib.hid hm
  have HRw := Lib.hid hRw
  have HBS : Hid (Bs l y L (a - a) (m - a)) := Lib.hid (by
    have := Bs.start l y L
    rwa [show a - a = 0 by omega, show m - a = L.length by omega])
  clear hC hS hlt hl hb ha hRw hm hnl h1
  go_enter Try.func26, Try.ntmps26
  go_wp2
  go_loopw [14, 15] (fun s t wr => ∃ i j : Nat, s = .int .i64 i ∧ t = .int .i64 j ∧ a ≤ i ∧ i ≤ j ∧ j ≤ m ∧ Hid (Bs l y L (i - a) (j - a)) ∧ Hid (Rw w0 g q cap (P ++ (L ++ y :: Q)) wr)) (fun s t _ => (intOf t).toNat - (intOf s).toNat)
  case atStart => exact ⟨a, m, rfl, rfl, Nat.le_refl _, ham, Nat.le_refl _, HBS, HRw⟩
  case round =>
    obtain ⟨i, j, rfl, rfl, hai, hij, hjm, HI, HR⟩ := hrel
    clear HBS HRw
    by_cases hlt : i < j
    · have hltz : (i : Int) < (j : Int) := by omega
      obtain ⟨h, hh⟩ : ∃ h, (i + j) / 2 = h := ⟨_, rfl⟩
      have eh : ((i : Int) + (j : Int)) / 2 = (h : Int) := by omega
      have hhi : i ≤ h := by omega
      have hhj : h < j := by omega
      clear hh
      obtain ⟨x, hx⟩ : ∃ x, L[h - a]? = some x := ⟨_, List.getElem?_eq_getElem (by have := HM.out; omega)⟩
      have ca := HR.out.cell m y (by
        have e : P ++ (L ++ y :: Q) = (P ++ L) ++ y :: Q := by simp
        rw [e]; exact at_app _ _ y m (by rw [List.length_append, HA.out]; exact HM.out))
      have cd := HR.out.cell h x (by
        obtain ⟨h1, rfl⟩ := List.getElem?_eq_some_iff.1 hx
        have := HA.out
        rw [List.getElem?_append_right (by omega), this, List.getElem?_append_left h1]; exact hx)
      have hxL := List.mem_of_getElem? hx
      have hxy := HLT.out x hxL
      have hc := HC.out.at_ HR.out y x hy (HL.out x hxL)
      have ba : (m : Int) < (q : Int) := by omega
      have bd : (h : Int) < (q : Int) := by omega
      have HX := Lib.hid hx
      clear hx hxL
      by_cases hv : tm l y < tm l x
      · have hv1 := cmpS_lt _ _ hv
        have HN : Hid (Bs l y L (i - a) (h - a)) := Lib.hid (HI.out.hi HLS.out _ _ HX.out ((bef_less l x y hxy).2 hv))
        generalize cmpS (tm l y) (tm l x) = v at hc hv1
        have hd1 : decide (v < 0) = true := decide_eq_true hv1
        clear hv hxy
        go_wp2_with fail
        go_quiet (first | (go_at_fn 21; refine Calls.quiet_of (hc _)))
        have HR2 := Lib.hid (HR.out.drewN nq)
        clear ca cd hc HR
        generalize wr.drewN nq = w3 at *
        go_wp2
        go_roundw
        case rel => exact ⟨i, h, rfl, by go_num, hai, hhi, by omega, HN, HR2⟩
        case measure => simp [intOf]; omega
      · have hv1 := cmpS_ge _ _ hv
        have HN : Hid (Bs l y L (h + 1 - a) (j - a)) := Lib.hid (by
          rw [show h + 1 - a = h - a + 1 by omega]
          exact HI.out.lo HLS.out _ _ HX.out ((bef_not l x y hxy).2 hv))
        generalize cmpS (tm l y) (tm l x) = v at hc hv1
        have hd1 : decide (v < 0) = false := decide_eq_false hv1
        clear hv hxy
        go_wp2_with fail
        go_quiet (first | (go_at_fn 21; refine Calls.quiet_of (hc _)))
        have HR2 := Lib.hid (HR.out.drewN nq)
        clear ca cd hc HR
        generalize wr.drewN nq = w3 at *
        go_wp2
        go_roundw
        case rel => exact ⟨h + 1, j, by go_num, rfl, by omega, by omega, hjm, HN, HR2⟩
        case measure => simp [intOf]; omega
    · have hji : j = i := by omega
      subst hji
      have HO := Lib.hid (HI.out.out HLS.out)
      have HR2 : Hid (Rw w0 g q cap (P ++ (L.take (m - a) ++ y :: (L.drop (m - a) ++ Q))) wr) := Lib.hid (by
        have := HM.out
        rw [List.take_of_length_le (by omega), List.drop_of_length_le (by omega)]; exact HR.out)
      clear HI HR
      generalize wr = w2 at *
      go_wp2
      go_loopw [17] (fun s wr => ∃ k : Nat, s = .int .i64 k ∧ j ≤ k ∧ k ≤ m ∧ Hid (Rw w0 g q cap (P ++ (L.take (k - a) ++ y :: (L.drop (k - a) ++ Q))) wr)) (fun s _ => (intOf s).toNat)
      case atStart => exact ⟨m, rfl, hjm, Nat.le_refl _, HR2⟩
      case round =>
        obtain ⟨k, rfl, hjk, hkm, HK⟩ := hrel
        clear HR2
        by_cases hlt2 : j < k
        · obtain ⟨kp, hkp⟩ : ∃ p, p + 1 = k := ⟨k - 1, by omega⟩
          have zkp : (k : Int) = (kp : Int) + 1 := by omega
          have hltz : (j : Int) < (kp : Int) + 1 := by omega
          have hkL : kp - a < L.length := by have := HM.out; omega
          obtain ⟨x, hx⟩ : ∃ x, L[kp - a]? = some x := ⟨_, List.getElem?_eq_getElem hkL⟩
          have hdr : L.drop (kp - a) = x :: L.drop (k - a) := by
            obtain ⟨h1, rfl⟩ := List.getElem?_eq_some_iff.1 hx
            rw [List.drop_eq_getElem_cons h1, show k - a = kp - a + 1 by omega]
          have htk : L.take (k - a) = L.take (kp - a) ++ [x] := by
            rw [show k - a = kp - a + 1 by omega, List.take_add_one, hx]; rfl
          have hA : (P ++ L.take (kp - a)).length = kp := by rw [List.length_append, HA.out, List.length_take]; omega
          have hA2 : (P ++ L.take (kp - a)).length + 1 + ([] : List Nat).length = k := by rw [hA]; exact hkp
          have hrow : P ++ (L.take (k - a) ++ y :: (L.drop (k - a) ++ Q)) = (P ++ L.take (kp - a)) ++ x :: ([] ++ y :: (L.drop (k - a) ++ Q)) := by rw [htk]; simp
          rw [hrow] at HK
          have HSW : Hid (Rw w0 g q cap (P ++ (L.take (kp - a) ++ y :: (L.drop (kp - a) ++ Q))) ((wr.setCell ⟨g, k, none⟩ (.int .i64 (x : Int))).setCell ⟨g, kp, none⟩ (.int .i64 (y : Int))).drew) := Lib.hid (by
            have h3 := HK.out.swap k kp y x
            rw [List.set_comm _ _ (by omega), swap_app _ _ _ x y kp k hA hA2] at h3
            rw [hdr]
            simpa using h3)
          have ca := HK.out.cell k y (at_app2 _ _ _ x y _ hA2)
          have cd := HK.out.cell kp x (at_app _ _ x _ hA)
          have fa := HK.out.frozen k
          have fb := HK.out.frozen kp
          obtain ⟨u, cc⟩ := HK.out.second k kp x (by omega)
          have ea : ((kp : Int) + 1).toNat = k := by omega
          have pa : (0 : Int) ≤ (kp : Int) + 1 := by omega
          have ba : (kp : Int) + 1 < (q : Int) := by omega
          have bd : (kp : Int) < (q : Int) := by omega
          clear HK hrow hA hA2 htk hdr hx hkL
          go_wp2_with fail
          go_big_region
          clear ca cd cc fa fb
          generalize ((wr.setCell ⟨g, k, none⟩ (.int .i64 (x : Int))).setCell ⟨g, kp, none⟩ (.int .i64 (y : Int))).drew = w4 at *
          go_wp2
          go_roundw
          case rel => exact ⟨kp, by go_num, by omega, by omega, HSW⟩
          case measure => simp [intOf]; omega
        · have hke : k = j := by omega
          subst hke
          go_wp2
          (try simp only [Exit.inBlock, Exit.then]); refine bodyPost_ret (results_none rfl _ _ _) rfl ?_
          exact ⟨rfl, L.take (k - a) ++ y :: L.drop (k - a), by simpa using HK.out, HO.out, cut_perm y L _⟩
end Go.Proofs.Ytdbgpmfdiljopaa.Tick
