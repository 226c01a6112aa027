/-
  A STRETCH OF RISING PLACES, SORTED BY THE TIMES AT THEM BY INSERTION, PLACES OF ONE TIME RISING STILL (slices.insertionSortCmpFunc), and what is asked of the comparison ('Cmp'). No conditions beyond those that each theorem states.
-/
import Derived.Test.YtdbgpmfdiljopaaTickRow
namespace Go.Proofs.Ytdbgpmfdiljopaa.Tick
open Go.ChangeShapes Go.WideShapes Go.ChangeAt Go.RowKit Mem

def cmpS (a b : Int) : Int := if a < b then -1 else if b < a then 1 else 0
theorem cmpS_lt (a b : Int) (h : a < b) : cmpS a b < 0 := by unfold cmpS; rw [if_pos h]; decide
theorem cmpS_ge (a b : Int) (h : ¬ a < b) : ¬ cmpS a b < 0 := by
  unfold cmpS; rw [if_neg h]
  split <;> decide
/-- What is asked of the comparison: in every world in which all that lay in w0 lies unturned, called with two places, it tells how the times at them compare; it may draw. -/
def Cmp (l : List Int) (w0 : World) (cb : Array Value) : Prop :=
  ∀ (W : World) (x y : Nat), Below w0.heap.size w0 W → x < l.length → y < l.length →
    Calls Try.prog 21 (#[.int .i64 (x : Int), .int .i64 (y : Int)] ++ cb) W fun e w' => e = .returned (.int .i64 (cmpS (tm l x) (tm l y))) ∧ ∃ q, w' = W.drewN q
theorem Cmp.at_ {l : List Int} {w0 : World} {cb : Array Value} (h : Cmp l w0 cb) {g q cap : Nat} {d : List Nat} {W : World} (hR : Rw w0 g q cap d W) (x y : Nat) (hx : x < l.length) (hy : y < l.length) (n : Nat) :
    Calls Try.prog 21 (#[.int .i64 (x : Int), .int .i64 (y : Int)] ++ cb) (W.drewN n) fun e w' => e = .returned (.int .i64 (cmpS (tm l x) (tm l y))) ∧ ∃ q, w' = (W.drewN n).drewN q :=
  h (W.drewN n) x y (hR.drewN n).2 hx hy

theorem ins_out (l : List Int) (S1 S2 : List Nat) (x : Nat) (h : (S1 ++ S2).Pairwise (bef l)) (h1 : ∀ y ∈ S1, bef l y x) (h2 : ∀ y ∈ S2, bef l x y) : (S1 ++ x :: S2).Pairwise (bef l) := by
  rw [List.pairwise_append] at h ⊢
  refine ⟨h.1, List.pairwise_cons.2 ⟨h2, h.2.1⟩, fun a ha b hb => ?_⟩
  rcases List.mem_cons.1 hb with rfl | hb
  · exact h1 a ha
  · exact h.2.2 a ha b hb
theorem ins_last (l : List Int) (S1 : List Nat) (y x : Nat) (h : (S1 ++ [y]).Pairwise (bef l)) (hy : bef l y x) : ∀ z ∈ S1 ++ [y], bef l z x := by
  rw [List.pairwise_append] at h
  intro z hz
  rcases List.mem_append.1 hz with hz | hz
  · exact bef_trans l z y x (h.2.2 z hz y (by simp)) hy
  · have : z = y := by simpa using hz
    rw [this]; exact hy
theorem ins_perm (M S S1 S2 : List Nat) (k x : Nat) (hx : M[k]? = some x) (hS : S.Perm (M.take k)) (e : S1 ++ S2 = S) : (S1 ++ x :: S2).Perm (M.take (k + 1)) := by
  rw [List.take_add_one, hx]
  refine List.perm_middle.trans ?_
  rw [e]
  exact (hS.cons x).trans (by simpa using (List.perm_middle (a := x) (l₁ := M.take k) (l₂ := [])).symm)
theorem take_less (M : List Nat) (k x y : Nat) (hM : M.Pairwise (· < ·)) (hx : M[k]? = some x) (hy : y ∈ M.take k) : y < x := by
  obtain ⟨hk, rfl⟩ := List.getElem?_eq_some_iff.1 hx
  rw [List.mem_take_iff_getElem] at hy
  obtain ⟨j, hj, rfl⟩ := hy
  exact (List.pairwise_iff_getElem.1 hM) j k (by omega) hk (by omega)

set_option maxRecDepth 100000 in
set_option maxHeartbeats 4000000 in
theorem insert_c (l : List Int) (w0 : World) (cb : Array Value) (hC : Cmp l w0 cb) (g q cap a b : Nat) (P M Q : List Nat) (W : World) (hR : Rw w0 g q cap (P ++ (M ++ Q)) W) (hq : q ≤ 1000000)
    (ha : P.length = a) (hb : a + M.length = b) (hM : M.Pairwise (· < ·)) (hl : ∀ x ∈ M, x < l.length) :
    Calls Try.prog 25 #[.slice (some ⟨g, 0, none⟩) q cap, .int .i64 a, .int .i64 b, .func (.func 21) #[] cb] W fun e w' =>
      e = .returned (.tuple #[]) ∧ ∃ M', Rw w0 g q cap (P ++ (M' ++ Q)) w' ∧ M'.Pairwise (bef l) ∧ M'.Perm M := by
  have eg : ∀ args w, (callFunc 21 args).run Try.prog w = .ok (.enter 21 args) w := enters_of Try.func21 (by kernel_rfl) rfl
  have hbq : b ≤ q := by have := hR.len; simp at this; omega
  have haq : a ≤ 1000000 := by omega
  have HC := Lib.hid hC
  have HM := Lib.hid hM
  have HL := Lib.hid hl
  have HB := Lib.hid hb
  have HA := Lib.hid ha
  have HS : Hid (∃ S : List Nat, S.Perm (M.take (a + 1 - a)) ∧ S.Pairwise (bef l) ∧ Rw w0 g q cap (P ++ (S ++ (M.drop (a + 1 - a) ++ Q))) W) := Lib.hid (by
    rw [Nat.add_sub_cancel_left]
    refine ⟨M.take 1, List.Perm.refl _, ?_, ?_⟩
    · cases M with
      | nil => simp
      | cons x M => simp
    · have e : M.take 1 ++ (M.drop 1 ++ Q) = M ++ Q := by rw [← List.append_assoc, List.take_append_drop]
      rw [e]; exact hR)
  clear hC hM hl ha hb hR
  go_enter Try.func25, Try.ntmps25
  go_wp2
  go_loopw [8] (fun s wr => ∃ i : Nat, s = .int .i64 i ∧ a < i ∧ i ≤ b + 1 ∧ Hid (∃ S : List Nat, S.Perm (M.take (i - a)) ∧ S.Pairwise (bef l) ∧ Rw w0 g q cap (P ++ (S ++ (M.drop (i - a) ++ Q))) wr)) (fun s _ => b + 1 - (intOf s).toNat)
  case atStart => exact ⟨a + 1, by go_num, by omega, by have := HB.out; omega, HS⟩
  case round =>
    obtain ⟨i, rfl, hai, hib, HI⟩ := hrel
    clear HS
    obtain ⟨S, hS, hSs, hR⟩ := HI.out
    clear HI
    by_cases hlt : i < b
    · have hltz : (i : Int) < (b : Int) := by omega
      have hkl : i - a < M.length := by have := HB.out; omega
      obtain ⟨x, hx⟩ : ∃ x, M[i - a]? = some x := ⟨_, List.getElem?_eq_getElem hkl⟩
      obtain ⟨T, hT⟩ : ∃ T, M.drop (i + 1 - a) = T := ⟨_, rfl⟩
      have hdr : M.drop (i - a) = x :: T := by
        obtain ⟨h1, rfl⟩ := List.getElem?_eq_some_iff.1 hx
        rw [List.drop_eq_getElem_cons h1, ← hT, show i + 1 - a = i - a + 1 by omega]
      have hSl : S.length + a = i := by have := hS.length_eq; rw [List.length_take] at this; omega
      have hxl : x < l.length := HL.out x (List.mem_of_getElem? hx)
      have HSL : Hid (∀ y ∈ S, y < x ∧ y < l.length) := Lib.hid (fun y hy => by
        have h1 := hS.mem_iff.1 hy
        exact ⟨take_less M _ x y HM.out hx h1, HL.out y (List.mem_of_mem_take h1)⟩)
      have HX := Lib.hid hx
      have HT := Lib.hid hT
      have HP := Lib.hid hS
      have HSS := Lib.hid hSs
      rw [hdr] at hR
      have HN : Hid (∃ S1 S2 : List Nat, S1 ++ S2 = S ∧ S1.length + a = i ∧ (∀ y ∈ S2, bef l x y) ∧ Rw w0 g q cap (P ++ (S1 ++ x :: (S2 ++ (T ++ Q)))) wr) := Lib.hid ⟨S, [], by simp, hSl, by simp, by simpa using hR⟩
      clear hR hx hT hdr hS hSs hSl hkl
      generalize wr = w2 at *
      go_wp2
      go_loopw [9] (fun s wr => ∃ j : Nat, s = .int .i64 j ∧ a ≤ j ∧ j ≤ i ∧ Hid (∃ S1 S2 : List Nat, S1 ++ S2 = S ∧ S1.length + a = j ∧ (∀ y ∈ S2, bef l x y) ∧ Rw w0 g q cap (P ++ (S1 ++ x :: (S2 ++ (T ++ Q)))) wr)) (fun s _ => (intOf s).toNat)
      case atStart => exact ⟨i, rfl, by omega, Nat.le_refl _, HN⟩
      case round =>
        obtain ⟨j, rfl, haj, hji, HJ⟩ := hrel
        clear HN
        obtain ⟨S1, S2, e, hl1, h2, hR⟩ := HJ.out
        clear HJ
        by_cases hja : a < j
        · have hne : S1 ≠ [] := by intro h; rw [h] at hl1; simp at hl1; omega
          obtain ⟨S1', y, e1⟩ : ∃ S1' y, S1 = S1' ++ [y] := ⟨_, _, (List.dropLast_concat_getLast hne).symm⟩
          subst e1
          clear hne
          obtain ⟨jp, hjp⟩ : ∃ p, p + 1 = j := ⟨j - 1, by omega⟩
          have zjp : (j : Int) = (jp : Int) + 1 := by omega
          have hjad : decide ((jp : Int) + 1 > (a : Int)) = true := decide_eq_true (by omega)
          have hjaz : (a : Int) < (jp : Int) + 1 := by omega
          have hly := HSL.out y (by rw [← e]; simp)
          have hrow : P ++ (S1' ++ [y] ++ x :: (S2 ++ (T ++ Q))) = (P ++ S1') ++ y :: ([] ++ x :: (S2 ++ (T ++ Q))) := by simp
          rw [hrow] at hR
          have hA : (P ++ S1').length = jp := by simp at hl1; rw [List.length_append, HA.out]; omega
          have hA2 : (P ++ S1').length + 1 + ([] : List Nat).length = j := by rw [hA]; exact hjp
          have ca := hR.cell j x (at_app2 _ _ _ y x _ hA2)
          have cd := hR.cell jp y (at_app _ _ y _ hA)
          have hc := HC.out.at_ hR x y hxl hly.2
          have ea : ((jp : Int) + 1).toNat = j := by omega
          have pa : (0 : Int) ≤ (jp : Int) + 1 := by omega
          have ba : (jp : Int) + 1 < (q : Int) := by omega
          have bd : (jp : Int) < (q : Int) := by omega
          have HLY := Lib.hid hly
          have HE := Lib.hid e
          have H2 := Lib.hid h2
          have HL1 := Lib.hid hl1
          have HR := Lib.hid hR
          have HA1 := Lib.hid hA
          have HA2 := Lib.hid hA2
          clear hly e h2 hl1 hrow hR hA hA2
          by_cases hv : tm l x < tm l y
          · have hv1 := cmpS_lt _ _ hv
            have HB1 : Hid (bef l x y) := Lib.hid (.inl hv)
            generalize cmpS (tm l x) (tm l y) = v at hc hv1
            have hd1 : decide (v < 0) = true := decide_eq_true hv1
            clear hv
            go_wp2_with fail
            go_quiet (first | (go_at_fn 21; refine Calls.quiet_of (hc _)))
            have HR2 := Lib.hid (HR.out.drewN nq)
            clear ca cd hc HR
            generalize wr.drewN nq = w3 at *
            have HSW : Hid (Rw w0 g q cap (P ++ (S1' ++ x :: (y :: S2 ++ (T ++ Q)))) ((w3.setCell ⟨g, j, none⟩ (.int .i64 (y : Int))).setCell ⟨g, jp, none⟩ (.int .i64 (x : Int))).drew) := Lib.hid (by
              have h3 := HR2.out.swap j jp x y
              rw [List.set_comm _ _ (by omega), swap_app _ _ _ y x jp j HA1.out HA2.out] at h3
              simpa using h3)
            have ca := HR2.out.cell j x (at_app2 _ _ _ y x _ HA2.out)
            have cd := HR2.out.cell jp y (at_app _ _ y _ HA1.out)
            have fa := HR2.out.frozen j
            have fb := HR2.out.frozen jp
            obtain ⟨u, cc⟩ := HR2.out.second j jp y (by omega)
            clear HR2
            go_wp2_with fail
            go_big_region
            clear ca cd cc fa fb
            generalize ((w3.setCell ⟨g, j, none⟩ (.int .i64 (y : Int))).setCell ⟨g, jp, none⟩ (.int .i64 (x : Int))).drew = w4 at *
            go_wp2
            go_roundw
            case rel => exact ⟨jp, by go_num, by omega, by omega, Lib.hid ⟨S1', y :: S2, by rw [← HE.out]; simp, by have := HL1.out; simp at this; omega, fun z hz => by
              rcases List.mem_cons.1 hz with rfl | hz
              · exact HB1.out
              · exact H2.out z hz, HSW.out⟩⟩
            case measure => simp [intOf]; omega
          · have hv1 := cmpS_ge _ _ hv
            have HOUT : Hid ((S1' ++ [y] ++ x :: S2).Pairwise (bef l)) := Lib.hid (by
              have h3 := HSS.out
              rw [← HE.out] at h3
              refine ins_out l _ _ x h3 (ins_last l S1' y x (List.pairwise_append.1 h3).1 ?_) H2.out
              have := HLY.out.1
              unfold bef; omega)
            have HPM := Lib.hid (ins_perm M S (S1' ++ [y]) S2 (i - a) x HX.out HP.out HE.out)
            generalize cmpS (tm l x) (tm l y) = v at hc hv1
            have hd1 : decide (v < 0) = false := decide_eq_false hv1
            clear hv
            go_wp2_with fail
            go_quiet (first | (go_at_fn 21; refine Calls.quiet_of (hc _)))
            have HR2 : Hid (Rw w0 g q cap (P ++ ((S1' ++ [y] ++ x :: S2) ++ (M.drop (i + 1 - a) ++ Q))) (wr.drewN nq)) := Lib.hid (by rw [HT.out]; simpa using HR.out.drewN nq)
            clear ca cd hc HR
            generalize wr.drewN nq = w3 at *
            go_wp2
            go_roundw
            case rel => exact ⟨i + 1, by go_num, by omega, by omega, Lib.hid ⟨S1' ++ [y] ++ x :: S2, by rw [show i + 1 - a = i - a + 1 by omega]; exact HPM.out, HOUT.out, HR2.out⟩⟩
            case measure => simp [intOf]; omega
        · have hS1 : S1 = [] := List.eq_nil_of_length_eq_zero (by omega)
          subst hS1
          have HOUT : Hid (([] ++ x :: S2).Pairwise (bef l)) := Lib.hid (ins_out l [] S2 x (by rw [e]; exact HSS.out) (by simp) h2)
          have HPM := Lib.hid (ins_perm M S [] S2 (i - a) x HX.out HP.out e)
          have HR2 : Hid (Rw w0 g q cap (P ++ (([] ++ x :: S2) ++ (M.drop (i + 1 - a) ++ Q))) wr) := Lib.hid (by rw [HT.out]; simpa using hR)
          have hjd : decide ((j : Int) > (a : Int)) = false := decide_eq_false (by omega)
          have hjz : ¬ (a : Int) < (j : Int) := by omega
          clear hR e h2 hl1
          go_wp2_with fail
          go_quiet (fail)
          have HR3 := Lib.hid (HR2.out.drewN nq)
          clear HR2
          generalize wr.drewN nq = w3 at *
          go_wp2
          go_roundw
          case rel => exact ⟨i + 1, by go_num, by omega, by omega, Lib.hid ⟨[] ++ x :: S2, by rw [show i + 1 - a = i - a + 1 by omega]; exact HPM.out, HOUT.out, HR3.out⟩⟩
          case measure => simp [intOf]; omega
    · have hge : M.length ≤ i - a := by have := HB.out; omega
      rw [List.take_of_length_le hge] at hS
      rw [List.drop_of_length_le hge] at hR
      have HR := Lib.hid hR
      have HP := Lib.hid hS
      have HSS := Lib.hid hSs
      clear hR hS hSs hge
      go_wp2
      go_end0
      exact ⟨rfl, S, by simpa using HR.out, HSS.out, HP.out⟩
end Go.Proofs.Ytdbgpmfdiljopaa.Tick
