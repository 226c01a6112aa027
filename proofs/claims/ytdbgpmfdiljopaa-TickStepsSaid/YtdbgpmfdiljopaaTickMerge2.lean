/-
  TWO SORTED STRETCHES OF TWO PLACES OR MORE ARE MERGED (slices.symMergeCmpFunc), given that shorter ones are: the second begins ahead of the middle or at it. No conditions beyond those that the theorem states.
-/
import Derived.Test.YtdbgpmfdiljopaaTickMergeK
namespace Go.Proofs.Ytdbgpmfdiljopaa.Tick
open Go.ChangeShapes Go.WideShapes Go.ChangeAt Go.RowKit Mem

set_option maxRecDepth 100000 in
set_option maxHeartbeats 16000000 in
theorem merge_mid2 (l : List Int) (w0 : World) (cb : Array Value) (hC : Cmp l w0 cb) (g q cap N : Nat) (hI : MergeC l w0 cb g q cap N) (a m b mid : Nat) (P L R Q : List Nat) (W : World) (hRw : Rw w0 g q cap (P ++ (L ++ (R ++ Q))) W) (hq : q ≤ 1000000)
    (hN : L.length + R.length ≤ N + 1) (ha : P.length = a) (hm : a + L.length = m) (hb : m + R.length = b) (h1 : 1 < L.length) (h2 : 1 < R.length) (hmid : (a + b) / 2 = mid) (hside : m ≤ mid) (hL : L.Pairwise (bef l)) (hR : R.Pairwise (bef l)) (hlt : ∀ x ∈ L, ∀ y ∈ R, x < y) (hlL : ∀ x ∈ L, x < l.length) (hlR : ∀ y ∈ R, y < l.length) :
    Calls Try.prog 26 #[.slice (some ⟨g, 0, none⟩) q cap, .int .i64 a, .int .i64 m, .int .i64 b, .func (.func 21) #[] cb] W fun e w' =>
      e = .returned (.tuple #[]) ∧ ∃ M', Rw w0 g q cap (P ++ (M' ++ Q)) w' ∧ M'.Pairwise (bef l) ∧ M'.Perm (L ++ R) := by
  have eg : ∀ args w, (callFunc 21 args).run Try.prog w = .ok (.enter 21 args) w := enters_of Try.func21 (by kernel_rfl) rfl
  have hbq : b ≤ q := by have := hRw.len; simp at this; omega
  obtain ⟨nl, hnl⟩ : ∃ nl, L.length = nl := ⟨_, rfl⟩
  obtain ⟨nr, hnr⟩ : ∃ nr, R.length = nr := ⟨_, rfl⟩
  have e0 : (m : Int) - (a : Int) = (nl : Int) := by omega
  have t0 : ((nl : Int) == 1) = false := by
    have : ¬ (nl : Int) = 1 := by omega
    simpa using this
  have e1 : (b : Int) - (m : Int) = (nr : Int) := by omega
  have t1 : ((nr : Int) == 1) = false := by
    have : ¬ (nr : Int) = 1 := by omega
    simpa using this
  have e2 : ((a : Int) + (b : Int)) / 2 = (mid : Int) := by omega
  obtain ⟨nn, hnn⟩ : ∃ nn, mid + m = nn := ⟨_, rfl⟩
  have e3 : (mid : Int) + (m : Int) = (nn : Int) := by omega
  have hnq : nn ≤ 2000000 := by omega
  obtain ⟨p, hp⟩ : ∃ p, p + 1 = nn := ⟨nn - 1, by omega⟩
  have e5 : (nn : Int) - 1 = (p : Int) := by omega
  have hsz : ¬ (mid : Int) < (m : Int) := by omega
  obtain ⟨lo, hlo⟩ : ∃ lo, lo = a := ⟨_, rfl⟩
  obtain ⟨hi, hhi⟩ : ∃ hi, hi = m := ⟨_, rfl⟩
  have HS : Hid (a ≤ lo ∧ lo ≤ hi ∧ hi ≤ mid ∧ hi ≤ a + L.length ∧ mid ≤ lo + R.length ∧ (lo = a ∨ mid = lo + R.length) ∧ (hi = mid ∨ hi = a + L.length) ∧ mid + m = nn ∧ a < mid ∧ mid < b ∧ a < m ∧ m < b) := Lib.hid (by omega)
  have HC := Lib.hid hC
  have HIH := Lib.hid hI
  have HLS := Lib.hid hL
  have HRS := Lib.hid hR
  have HLT := Lib.hid hlt
  have HLL := Lib.hid hlL
  have HLR := Lib.hid hlR
  have HA := Lib.hid ha
  have HM := Lib.hid hm
  have HB := Lib.hid hb
  have HN := Lib.hid hN
  have HP := Lib.hid hp
  have HRw := Lib.hid hRw
  have HSB := Lib.hid (Sb.start l L R a mid lo hi)
  have HST : Hid (lo = a ∧ hi = m) := Lib.hid ⟨hlo, hhi⟩
  clear hlo hhi
  clear hC hI hL hR hlt hlL hlR ha hm hb hN hRw h1 h2 hmid hside hnn hnl hnr hp
  go_enter Try.func26, Try.ntmps26
  go_wp2
  go_loopw [20, 21] (fun s t wr => ∃ i j : Nat, s = .int .i64 i ∧ t = .int .i64 j ∧ lo ≤ i ∧ i ≤ j ∧ j ≤ hi ∧ Hid (Sb l L R a mid lo hi i j) ∧ Hid (Rw w0 g q cap (P ++ (L ++ (R ++ Q))) wr)) (fun s t _ => (intOf t).toNat - (intOf s).toNat)
  case atStart => exact ⟨lo, hi, by rw [HST.out.1], by rw [HST.out.2], Nat.le_refl _, HS.out.2.1, Nat.le_refl _, HSB, HRw⟩
  case round =>
    obtain ⟨s, r, rfl, rfl, hls, hsr, hrh, HI, HR⟩ := hrel
    clear HSB HRw HST
    by_cases hlt : s < r
    · have hltz : (s : Int) < (r : Int) := by omega
      obtain ⟨c, hc0⟩ : ∃ c, (s + r) / 2 = c := ⟨_, rfl⟩
      have ec : ((s : Int) + (r : Int)) / 2 = (c : Int) := by omega
      have hcs : s ≤ c := by omega
      have hcr : c < r := by omega
      clear hc0
      have hs := HS.out
      have hp := HP.out
      have hA := HA.out
      have hM := HM.out
      have hB := HB.out
      obtain ⟨d, hd⟩ : ∃ d, d + c = p := ⟨p - c, by omega⟩
      have ed : (p : Int) - (c : Int) = (d : Int) := by omega
      have hdm : d = m + (mid - 1 - c) := by omega
      obtain ⟨x, hx⟩ : ∃ x, L[c - a]? = some x := ⟨_, List.getElem?_eq_getElem (by omega)⟩
      obtain ⟨y, hy⟩ : ∃ y, R[mid - 1 - c]? = some y := ⟨_, List.getElem?_eq_getElem (by omega)⟩
      have ca := HR.out.cell c x (row_left P L (R ++ Q) a c x hA (by omega) hx)
      have cd := HR.out.cell d y (by rw [hdm]; exact row_right P L R Q m _ y (by omega) hy)
      have hxL := List.mem_of_getElem? hx
      have hyR := List.mem_of_getElem? hy
      have hxy := HLT.out x hxL y hyR
      have hc := HC.out.at_ HR.out y x (HLR.out y hyR) (HLL.out x hxL)
      have ba : (c : Int) < (q : Int) := by omega
      have bd : (d : Int) < (q : Int) := by omega
      have HX := Lib.hid hx
      have HY := Lib.hid hy
      clear hx hy hxL hyR hdm hd hs hp hA hM hB
      by_cases hv : tm l y < tm l x
      · have hv1 := cmpS_lt _ _ hv
        have HN2 : Hid (Sb l L R a mid lo hi s c) := Lib.hid (HI.out.hi HLS.out HRS.out c x y HX.out HY.out ((bef_less l x y hxy).2 hv))
        generalize cmpS (tm l y) (tm l x) = v at hc hv1
        have hd1 : decide (v < 0) = true := decide_eq_true hv1
        clear hv hxy
        go_wp2_with fail
        go_quiet (first | (go_at_fn 21; refine Calls.quiet_of (hc _)))
        have HR2 := Lib.hid (HR.out.drewN nq)
        clear ca cd hc HR
        generalize wr.drewN nq = w3 at *
        go_wp2
        go_roundw
        case rel => exact ⟨s, c, rfl, by go_num, hls, hcs, by omega, HN2, HR2⟩
        case measure => simp [intOf]; omega
      · have hv1 := cmpS_ge _ _ hv
        have HN2 : Hid (Sb l L R a mid lo hi (c + 1) r) := Lib.hid (HI.out.lo HLS.out HRS.out c x y HX.out HY.out ((bef_not l x y hxy).2 hv))
        generalize cmpS (tm l y) (tm l x) = v at hc hv1
        have hd1 : decide (v < 0) = false := decide_eq_false hv1
        clear hv hxy
        go_wp2_with fail
        go_quiet (first | (go_at_fn 21; refine Calls.quiet_of (hc _)))
        have HR2 := Lib.hid (HR.out.drewN nq)
        clear ca cd hc HR
        generalize wr.drewN nq = w3 at *
        go_wp2
        go_roundw
        case rel => exact ⟨c + 1, r, by go_num, rfl, by omega, by omega, hrh, HN2, HR2⟩
        case measure => simp [intOf]; omega
    · have hrs : r = s := by omega
      subst hrs
      have hs := HS.out
      have hA := HA.out
      have hM := HM.out
      have hB := HB.out
      have hN := HN.out
      obtain ⟨L1, L2, R1, R2, eL, eR, l1, r1, pl1, pl2, pr1, pr2, hfin⟩ := cut_facts l L R a mid lo hi r HI.out HLS.out HRS.out hs.1 hls hrh hs.2.2.1 hs.2.2.2.1 hs.2.2.2.2.1 hs.2.2.2.2.2.1 hs.2.2.2.2.2.2.1
      have hlt2 := HLT.out
      have hll2 := HLL.out
      have hlr2 := HLR.out
      have hR := HR.out
      rw [eL, eR] at hlt2
      rw [eL] at hll2 hM hN
      rw [eR] at hlr2 hB hN
      rw [eL, eR] at hR
      simp only [List.length_append] at hM hB hN
      obtain ⟨e, he⟩ : ∃ e, e + r = nn := ⟨nn - r, by omega⟩
      have ee : (nn : Int) - (r : Int) = (e : Int) := by omega
      have hq2 : e ≤ 2000000 := by omega
      have HF := Lib.hid hfin
      have HIL : L1 ≠ [] → R1 ≠ [] → ∀ (Q' : List Nat) (W' : World), Rw w0 g q cap (P ++ (L1 ++ (R1 ++ Q'))) W' → Calls Try.prog 26 #[.slice (some ⟨g, 0, none⟩) q cap, .int .i64 a, .int .i64 r, .int .i64 mid, .func (.func 21) #[] cb] W' fun e w' =>
          e = .returned (.tuple #[]) ∧ ∃ M', Rw w0 g q cap (P ++ (M' ++ Q')) w' ∧ M'.Pairwise (bef l) ∧ M'.Perm (L1 ++ R1) := fun n1 n2 Q' W' hW => by
        have n1' := List.length_pos_iff.2 n1
        have n2' := List.length_pos_iff.2 n2
        exact HIH.out a r mid P L1 R1 Q' W' (by omega) hW hA (by omega) (by omega) n1' n2' pl1 pr1 (fun x hx y hy => hlt2 x (by simp [hx]) y (by simp [hy])) (fun x hx => hll2 x (by simp [hx])) (fun y hy => hlr2 y (by simp [hy]))
      have HIR : L2 ≠ [] → R2 ≠ [] → ∀ (P' : List Nat) (W' : World), P'.length = mid → Rw w0 g q cap (P' ++ (L2 ++ (R2 ++ Q))) W' → Calls Try.prog 26 #[.slice (some ⟨g, 0, none⟩) q cap, .int .i64 mid, .int .i64 e, .int .i64 b, .func (.func 21) #[] cb] W' fun e w' =>
          e = .returned (.tuple #[]) ∧ ∃ M', Rw w0 g q cap (P' ++ (M' ++ Q)) w' ∧ M'.Pairwise (bef l) ∧ M'.Perm (L2 ++ R2) := fun n1 n2 P' W' hP hW => by
        have n1' := List.length_pos_iff.2 n1
        have n2' := List.length_pos_iff.2 n2
        exact HIH.out mid e b P' L2 R2 Q W' (by omega) hW hP (by omega) (by omega) n1' n2' pl2 pr2 (fun x hx y hy => hlt2 x (by simp [hx]) y (by simp [hy])) (fun x hx => hll2 x (by simp [hx])) (fun y hy => hlr2 y (by simp [hy]))
      have HIL2 := Lib.hid HIL
      have HIR2 := Lib.hid HIR
      clear HIL HIR hlt2 hll2 hlr2 HI HR
      have HPL1 := Lib.hid pl1
      have HPL2 := Lib.hid pl2
      have HPR1 := Lib.hid pr1
      have HPR2 := Lib.hid pr2
      clear pl1 pl2 pr1 pr2 eL eR hfin
      by_cases hsm : r < m
      · by_cases hsd : r < mid
        · -- the rotation
          have n2 : L2 ≠ [] := fun h => by rw [h] at hM; simp at hM; omega
          have n3 : R1 ≠ [] := fun h => by rw [h] at r1; simp at r1; omega
          have hmez : (m : Int) < (e : Int) := by omega
          have hsmz : (r : Int) < (m : Int) := by omega
          have hsdz : (r : Int) < (mid : Int) := by omega
          have hdez : (mid : Int) < (e : Int) := by omega
          have HRot : Hid (Calls Try.prog 27 #[.slice (some ⟨g, 0, none⟩) q cap, .int .i64 r, .int .i64 m, .int .i64 e, .func (.func 21) #[] cb] wr fun e w' => e = .returned (.tuple #[]) ∧ Rw w0 g q cap ((P ++ L1) ++ (R1 ++ (L2 ++ (R2 ++ Q)))) w') := Lib.hid (by
            refine rotate_c w0 g q cap r m e (P ++ L1) L2 R1 (R2 ++ Q) _ wr (by simpa using hR) hq (by rw [List.length_append]; omega) (by rw [List.length_append]; omega) (by rw [List.length_append]; omega) (List.length_pos_iff.2 n2) (List.length_pos_iff.2 n3))
          have HMP : Hid (∀ M1 : List Nat, M1.Perm (L1 ++ R1) → (P ++ M1).length = mid) := Lib.hid (fun M1 h => by have := h.length_eq; simp at this; rw [List.length_append]; omega)
          have N2 := Lib.hid n2
          have N3 := Lib.hid n3
          by_cases has : a < r
          · have n1 : L1 ≠ [] := fun h => by rw [h] at l1; simp at l1; omega
            have N1 := Lib.hid n1
            have hasz : (a : Int) < (r : Int) := by omega
            by_cases heb : e < b
            · have n4 : R2 ≠ [] := fun h => by rw [h] at hB; simp at hB; omega
              have N4 := Lib.hid n4
              have hebz : (e : Int) < (b : Int) := by omega
              clear n1 n2 n3 n4 l1 r1 hs hA hM hB hN he hR
              go_wp2_with fail
              refine HRot.out.mono ?_
              rintro e' w3 ⟨rfl, h3⟩
              have H3 : Hid (Rw w0 g q cap (P ++ (L1 ++ (R1 ++ (L2 ++ (R2 ++ Q))))) w3) := Lib.hid (by simpa using h3)
              clear h3
              go_wp2_with fail
              refine (HIL2.out N1.out N3.out _ _ H3.out).mono ?_
              rintro e' w4 ⟨rfl, M1, h4, s4, p4⟩
              have H4 : Hid (Rw w0 g q cap ((P ++ M1) ++ (L2 ++ (R2 ++ Q))) w4) := Lib.hid (by simpa using h4)
              have S4 := Lib.hid s4
              have P4 := Lib.hid p4
              clear h4 s4 p4
              go_wp2_with fail
              refine (HIR2.out N2.out N4.out _ _ (HMP.out M1 P4.out) H4.out).mono ?_
              rintro e' w5 ⟨rfl, M2, h5, s5, p5⟩
              have H5 := Lib.hid h5
              have hf := Lib.hid (HF.out M1 M2 S4.out s5 P4.out p5)
              clear h5 s5 p5
              go_wp2_with fail
              go_end0
              exact ⟨rfl, M1 ++ M2, by simpa using H5.out, hf.out.1, hf.out.2⟩
            · have n4 : R2 = [] := List.eq_nil_of_length_eq_zero (by omega)
              subst n4
              have hebz : ¬ (e : Int) < (b : Int) := by omega
              clear n1 n2 n3 l1 r1 hs hA hM hB hN he hR
              go_wp2_with fail
              refine HRot.out.mono ?_
              rintro e' w3 ⟨rfl, h3⟩
              have H3 : Hid (Rw w0 g q cap (P ++ (L1 ++ (R1 ++ (L2 ++ ([] ++ Q))))) w3) := Lib.hid (by simpa using h3)
              clear h3
              go_wp2_with fail
              refine (HIL2.out N1.out N3.out _ _ H3.out).mono ?_
              rintro e' w4 ⟨rfl, M1, h4, s4, p4⟩
              have H4 := Lib.hid h4
              have hf := Lib.hid (HF.out M1 L2 s4 HPL2.out p4 (by simp))
              clear h4 s4 p4
              go_wp2_with fail
              go_end0
              exact ⟨rfl, M1 ++ L2, by simpa using H4.out, hf.out.1, hf.out.2⟩
          · have n1 : L1 = [] := List.eq_nil_of_length_eq_zero (by omega)
            subst n1
            have hasz : ¬ (a : Int) < (r : Int) := by omega
            by_cases heb : e < b
            · have n4 : R2 ≠ [] := fun h => by rw [h] at hB; simp at hB; omega
              have N4 := Lib.hid n4
              have hebz : (e : Int) < (b : Int) := by omega
              clear n2 n3 n4 l1 r1 hs hA hM hB hN he hR
              go_wp2_with fail
              refine HRot.out.mono ?_
              rintro e' w3 ⟨rfl, h3⟩
              have H3 : Hid (Rw w0 g q cap ((P ++ R1) ++ (L2 ++ (R2 ++ Q))) w3) := Lib.hid (by simpa using h3)
              clear h3
              go_wp2_with fail
              refine (HIR2.out N2.out N4.out _ _ (HMP.out R1 (by simp)) H3.out).mono ?_
              rintro e' w5 ⟨rfl, M2, h5, s5, p5⟩
              have H5 := Lib.hid h5
              have hf := Lib.hid (HF.out R1 M2 HPR1.out s5 (by simp) p5)
              clear h5 s5 p5
              go_wp2_with fail
              go_end0
              exact ⟨rfl, R1 ++ M2, by simpa using H5.out, hf.out.1, hf.out.2⟩
            · have n4 : R2 = [] := List.eq_nil_of_length_eq_zero (by omega)
              subst n4
              have hebz : ¬ (e : Int) < (b : Int) := by omega
              clear n2 n3 l1 r1 hs hA hM hB hN he hR
              go_wp2_with fail
              refine HRot.out.mono ?_
              rintro e' w3 ⟨rfl, h3⟩
              have H3 : Hid (Rw w0 g q cap (P ++ (R1 ++ (L2 ++ Q))) w3) := Lib.hid (by simpa using h3)
              have hf := Lib.hid (HF.out R1 L2 HPR1.out HPL2.out (by simp) (by simp))
              clear h3
              go_wp2_with fail
              go_end0
              exact ⟨rfl, R1 ++ L2, by simpa using H3.out, hf.out.1, hf.out.2⟩
        · -- nothing of the second stretch goes ahead
          have n3 : R1 = [] := List.eq_nil_of_length_eq_zero (by omega)
          subst n3
          have n2 : L2 ≠ [] := fun h => by rw [h] at hM; simp at hM; omega
          have n4 : R2 ≠ [] := fun h => by rw [h] at hB; simp at hB; omega
          have hmez : ¬ (m : Int) < (e : Int) := by omega
          have hsmz : (r : Int) < (m : Int) := by omega
          have hsdz : ¬ (r : Int) < (mid : Int) := by omega
          have hasz : (a : Int) < (r : Int) := by omega
          have hdez : (mid : Int) < (e : Int) := by omega
          have hebz : (e : Int) < (b : Int) := by omega
          have HR : Hid (Rw w0 g q cap ((P ++ L1) ++ (L2 ++ (R2 ++ Q))) wr) := Lib.hid (by simpa using hR)
          have HMP : Hid ((P ++ L1).length = mid) := Lib.hid (by simp at r1; rw [List.length_append]; omega)
          have N2 := Lib.hid n2
          have N4 := Lib.hid n4
          clear n2 n4 l1 r1 hs hA hM hB hN he hR
          go_wp2_with fail
          refine (HIR2.out N2.out N4.out _ _ HMP.out HR.out).mono ?_
          rintro e' w5 ⟨rfl, M2, h5, s5, p5⟩
          have H5 := Lib.hid h5
          have hf := Lib.hid (HF.out L1 M2 HPL1.out s5 (by simp) p5)
          clear h5 s5 p5
          go_wp2_with fail
          go_end0
          exact ⟨rfl, L1 ++ M2, by simpa using H5.out, hf.out.1, hf.out.2⟩
      · -- nothing of the first stretch goes behind
        have n2 : L2 = [] := List.eq_nil_of_length_eq_zero (by omega)
        subst n2
        have hsmz : ¬ (r : Int) < (m : Int) := by omega
        have hasz : (a : Int) < (r : Int) := by omega
        have hdez : ¬ (mid : Int) < (e : Int) := by omega
        have n1 : L1 ≠ [] := fun h => by rw [h] at l1; simp at l1; omega
        by_cases hsd : r < mid
        · have n3 : R1 ≠ [] := fun h => by rw [h] at r1; simp at r1; omega
          have hsdz : (r : Int) < (mid : Int) := by omega
          have HR : Hid (Rw w0 g q cap (P ++ (L1 ++ (R1 ++ (R2 ++ Q)))) wr) := Lib.hid (by simpa using hR)
          have N1 := Lib.hid n1
          have N3 := Lib.hid n3
          clear n1 n3 l1 r1 hs hA hM hB hN he hR
          go_wp2_with fail
          refine (HIL2.out N1.out N3.out _ _ HR.out).mono ?_
          rintro e' w4 ⟨rfl, M1, h4, s4, p4⟩
          have H4 := Lib.hid h4
          have hf := Lib.hid (HF.out M1 R2 s4 HPR2.out p4 (by simp))
          clear h4 s4 p4
          go_wp2_with fail
          go_end0
          exact ⟨rfl, M1 ++ R2, by simpa using H4.out, hf.out.1, hf.out.2⟩
        · have n3 : R1 = [] := List.eq_nil_of_length_eq_zero (by omega)
          subst n3
          have hsdz : ¬ (r : Int) < (mid : Int) := by omega
          have HR : Hid (Rw w0 g q cap (P ++ (L1 ++ (R2 ++ Q))) wr) := Lib.hid (by simpa using hR)
          have hf := Lib.hid (HF.out L1 R2 HPL1.out HPR2.out (by simp) (by simp))
          clear n1 l1 r1 hs hA hM hB hN he hR
          go_wp2_with fail
          go_end0
          exact ⟨rfl, L1 ++ R2, by simpa using HR.out, hf.out.1, hf.out.2⟩
end Go.Proofs.Ytdbgpmfdiljopaa.Tick
