/-
  RISING PLACES, SORTED BY THE TIMES AT THEM, PLACES OF ONE TIME RISING STILL (slices.stableCmpFunc, slices.SortStableFunc), at whatever length up to 1000000. No conditions beyond those that each theorem states.
-/
import Derived.Test.YtdbgpmfdiljopaaTickGood
namespace Go.Proofs.Ytdbgpmfdiljopaa.Tick
open Go.ChangeShapes Go.WideShapes Go.ChangeAt Go.RowKit Mem

theorem drop_split (D : List Nat) (a b : Nat) (hab : a ≤ b) : (D.drop a).take (b - a) ++ D.drop b = D.drop a := by
  have h := List.take_append_drop (b - a) (D.drop a)
  rw [List.drop_drop] at h
  rwa [show a + (b - a) = b by omega] at h

set_option maxRecDepth 100000 in
set_option maxHeartbeats 16000000 in
theorem stable_c (l : List Int) (w0 : World) (cb : Array Value) (hC : Cmp l w0 cb) (g q cap : Nat) (D : List Nat) (W : World) (hRw : Rw w0 g q cap D W) (hq : q ≤ 1000000) (hD : D.Pairwise (· < ·)) (hl : ∀ x ∈ D, x < l.length) :
    Calls Try.prog 23 #[.slice (some ⟨g, 0, none⟩) q cap, .int .i64 q, .func (.func 21) #[] cb] W fun e w' =>
      e = .returned (.tuple #[]) ∧ ∃ E, Rw w0 g q cap E w' ∧ E.Pairwise (bef l) ∧ E.Perm D := by
  have HC := Lib.hid hC
  have HD := Lib.hid hD
  have HL := Lib.hid hl
  have HN := Lib.hid hRw.len
  have HS : Hid (∃ X : List Nat, X.length = 0 ∧ (∀ E', Good l 20 (D.drop 0) E' → Good l 20 D (X ++ E')) ∧ Rw w0 g q cap (X ++ D.drop 0) W) := Lib.hid ⟨[], rfl, fun E' h => h, hRw⟩
  clear hC hD hl hRw
  go_enter Try.func23, Try.ntmps23
  go_wp2
  go_loopw [7, 8] (fun s t wr => ∃ a b : Nat, s = .int .i64 a ∧ t = .int .i64 b ∧ b = a + 20 ∧ a ≤ q ∧ Hid (∃ X : List Nat, X.length = a ∧ (∀ E', Good l 20 (D.drop a) E' → Good l 20 D (X ++ E')) ∧ Rw w0 g q cap (X ++ D.drop a) wr)) (fun _ t _ => q + 40 - (intOf t).toNat)
  case atStart => exact ⟨0, 20, rfl, rfl, rfl, Nat.zero_le _, HS⟩
  case round =>
    obtain ⟨a, b, rfl, rfl, hab, haq, HI⟩ := hrel
    clear HS
    have HAB := Lib.hid hab
    have hb1 : b ≤ 1000020 := by omega
    clear hab
    by_cases hbq : b ≤ q
    · have hbz : (b : Int) ≤ (q : Int) := by omega
      obtain ⟨X, hX, hcont, hR⟩ := HI.out
      have hab := HAB.out
      have hn := HN.out
      have hlen : ((D.drop a).take (b - a)).length = 20 := by rw [List.length_take, List.length_drop]; omega
      have hsub : ((D.drop a).take (b - a)).Sublist D := (List.take_sublist _ _).trans (List.drop_sublist _ _)
      have HIns := Lib.hid (insert_c l w0 cb HC.out g q cap a b X ((D.drop a).take (b - a)) (D.drop b) wr (by rw [drop_split D a b (by omega)]; exact hR) hq hX (by omega) (HD.out.sublist hsub) (fun x hx => HL.out x (hsub.subset hx)))
      have HCont : Hid (∀ M' : List Nat, M'.Pairwise (bef l) → M'.Perm ((D.drop a).take (b - a)) → (X ++ M').length = b ∧ ∀ E', Good l 20 (D.drop b) E' → Good l 20 D ((X ++ M') ++ E')) := Lib.hid (fun M' hs hp => by
        refine ⟨by rw [List.length_append, hp.length_eq, hlen]; omega, fun E' hE => ?_⟩
        rw [List.append_assoc]
        apply hcont
        rw [← drop_split D a b (by omega)]
        exact Good.step _ M' _ E' hlen hs hp hE)
      clear HI hX hcont hR hab hn hlen hsub
      go_wp2_with fail
      refine HIns.out.mono ?_
      rintro e w3 ⟨rfl, M', h3, h4, h5⟩
      have HS2 : Hid (∃ X : List Nat, X.length = b ∧ (∀ E', Good l 20 (D.drop b) E' → Good l 20 D (X ++ E')) ∧ Rw w0 g q cap (X ++ D.drop b) w3) := Lib.hid ⟨X ++ M', (HCont.out M' h4 h5).1, (HCont.out M' h4 h5).2, by rw [List.append_assoc]; exact h3⟩
      clear h3 h4 h5 HIns HCont
      go_wp2_with fail
      go_roundw
      case rel => exact ⟨b, b + 20, rfl, by go_num, rfl, hbq, HS2⟩
      case measure => simp [intOf]; omega
    · have hbz : ¬ (b : Int) ≤ (q : Int) := by omega
      obtain ⟨X, hX, hcont, hR⟩ := HI.out
      have hab := HAB.out
      have hn := HN.out
      have HIns := Lib.hid (insert_c l w0 cb HC.out g q cap a q X (D.drop a) [] wr (by rw [List.append_nil]; exact hR) hq hX (by rw [List.length_drop]; omega) (HD.out.sublist (List.drop_sublist _ _)) (fun x hx => HL.out x ((List.drop_sublist _ _).subset hx)))
      have HCont : Hid (∀ M' : List Nat, M'.Pairwise (bef l) → M'.Perm (D.drop a) → Good l 20 D (X ++ M')) := Lib.hid (fun M' hs hp => hcont M' (.last _ _ (by rw [List.length_drop]; omega) hs hp))
      clear HI hX hcont hR hab hn
      go_wp2_with fail
      refine HIns.out.mono ?_
      rintro e w3 ⟨rfl, M', h3, h4, h5⟩
      have HG : Hid (∃ E, Good l 20 D E ∧ Rw w0 g q cap E w3) := Lib.hid ⟨X ++ M', HCont.out M' h4 h5, by rw [List.append_nil] at h3; exact h3⟩
      clear h3 h4 h5 HIns HCont
      go_wp2_with fail
      go_loopw [6] (fun s wr => ∃ bs : Nat, s = .int .i64 bs ∧ 20 ≤ bs ∧ bs ≤ 2000000 ∧ Hid (∃ E, Good l bs D E ∧ Rw w0 g q cap E wr)) (fun s _ => 2000001 - (intOf s).toNat)
      case atStart => exact ⟨20, rfl, Nat.le_refl _, by omega, HG⟩
      case round =>
        obtain ⟨bs, rfl, hb20, hb2, HE⟩ := hrel
        clear HG
        by_cases hlt : bs < q
        · have hltz : (bs : Int) < (q : Int) := by omega
          obtain ⟨b2, hbb⟩ : ∃ b2, 2 * bs = b2 := ⟨_, rfl⟩
          have e2 : (2 : Int) * (bs : Int) = (b2 : Int) := by omega
          have e3 : (bs : Int) * 2 = (b2 : Int) := by omega
          have hb2m : b2 ≤ 2000000 := by omega
          have hb2l : bs < b2 := by omega
          have HBB := Lib.hid hbb
          have HS3 : Hid (∃ X D' Y : List Nat, X.length = 0 ∧ D'.length + 0 = q ∧ D'.Sublist D ∧ Good l bs D' Y ∧ (∀ E', Good l b2 D' E' → Good l b2 D (X ++ E')) ∧ Rw w0 g q cap (X ++ Y) wr) := Lib.hid (by
            obtain ⟨E, h1, h2⟩ := HE.out
            exact ⟨[], D, E, rfl, HN.out, List.Sublist.refl _, h1, fun E' h => h, h2⟩)
          clear hbb HE
          generalize wr = w4 at *
          go_wp2
          go_loopw [7, 8] (fun s t wr => ∃ a b : Nat, s = .int .i64 a ∧ t = .int .i64 b ∧ b = a + b2 ∧ a ≤ q ∧ Hid (∃ X D' Y : List Nat, X.length = a ∧ D'.length + a = q ∧ D'.Sublist D ∧ Good l bs D' Y ∧ (∀ E', Good l b2 D' E' → Good l b2 D (X ++ E')) ∧ Rw w0 g q cap (X ++ Y) wr)) (fun _ t _ => 6000000 - (intOf t).toNat)
          case atStart => exact ⟨0, b2, rfl, by first | rfl | go_num, by omega, Nat.zero_le _, HS3⟩
          case round =>
            obtain ⟨a, b, rfl, rfl, hab, haq, HI⟩ := hrel
            clear HS3
            have HAB := Lib.hid hab
            have hb1 : b ≤ 3000000 := by omega
            obtain ⟨m, hm⟩ : ∃ m, a + bs = m := ⟨_, rfl⟩
            have em : (a : Int) + (bs : Int) = (m : Int) := by omega
            have HM := Lib.hid hm
            clear hab hm
            by_cases hbq : b ≤ q
            · have hbz : (b : Int) ≤ (q : Int) := by omega
              obtain ⟨X, D', Y, hX, hDl, hsub, hG, hcont, hR⟩ := HI.out
              have hab := HAB.out
              have hm := HM.out
              have hbb := HBB.out
              obtain ⟨C1, C2, D1, B1, B2, E1, rfl, rfl, c1, c2, s1, s2, p1, p2, g1⟩ := hG.pair (by omega) (by omega)
              have hsub2 : (C1 ++ C2).Sublist D := (by rw [← List.append_assoc]; exact List.sublist_append_left _ _ : (C1 ++ C2).Sublist (C1 ++ (C2 ++ D1))).trans hsub
              have l1 := p1.length_eq
              have l2 := p2.length_eq
              have HMer := Lib.hid (merge_all l w0 cb HC.out g q cap hq (B1.length + B2.length) a m b X B1 B2 E1 wr (Nat.le_refl _) hR hX (by omega) (by omega) (by omega) (by omega) s1 s2 (parts_less C1 C2 B1 B2 (HD.out.sublist hsub2) p1 p2)
                (fun x hx => HL.out x (hsub2.subset (by simp [p1.mem_iff.1 hx]))) (fun x hx => HL.out x (hsub2.subset (by simp [p2.mem_iff.1 hx]))))
              have HNext : Hid (∀ (M' : List Nat) (w' : World), Rw w0 g q cap (X ++ (M' ++ E1)) w' → M'.Pairwise (bef l) → M'.Perm (B1 ++ B2) →
                  ∃ X D' Y : List Nat, X.length = b ∧ D'.length + b = q ∧ D'.Sublist D ∧ Good l bs D' Y ∧ (∀ E', Good l b2 D' E' → Good l b2 D (X ++ E')) ∧ Rw w0 g q cap (X ++ Y) w') := Lib.hid (fun M' w' h3 h4 h5 => by
                have l3 := h5.length_eq
                rw [List.length_append] at l3
                simp only [List.length_append] at hDl
                refine ⟨X ++ M', D1, E1, by rw [List.length_append]; omega, by omega, ((List.sublist_append_right C2 D1).trans (List.sublist_append_right C1 _)).trans hsub, g1, fun E' hE => ?_, by rw [List.append_assoc]; exact h3⟩
                rw [List.append_assoc]
                apply hcont
                rw [← List.append_assoc]
                exact Good.step (C1 ++ C2) M' D1 E' (by rw [List.length_append]; omega) h4 (h5.trans (p1.append p2)) hE)
              clear HI hX hDl hsub hG hcont hR hab hm hbb c1 c2 s1 s2 p1 p2 g1 hsub2 l1 l2
              go_wp2_with fail
              refine HMer.out.mono ?_
              rintro e w5 ⟨rfl, M', h3, h4, h5⟩
              have HS5 := Lib.hid (HNext.out M' w5 h3 h4 h5)
              clear h3 h4 h5 HMer HNext
              go_wp2_with fail
              go_roundw
              case rel => exact ⟨b, b + b2, rfl, by go_num, rfl, hbq, HS5⟩
              case measure => simp [intOf]; omega
            · have hbz : ¬ (b : Int) ≤ (q : Int) := by omega
              obtain ⟨X, D', Y, hX, hDl, hsub, hG, hcont, hR⟩ := HI.out
              have hab := HAB.out
              have hm := HM.out
              have hbb := HBB.out
              by_cases hmq : m < q
              · have hmz : (m : Int) < (q : Int) := by omega
                obtain ⟨C1, C2, B1, B2, rfl, rfl, c1, c2, s1, s2, p1, p2⟩ := hG.rest (by omega) (by omega)
                have l1 := p1.length_eq
                have l2 := p2.length_eq
                rw [List.length_append] at hDl
                have HMer := Lib.hid (merge_all l w0 cb HC.out g q cap hq (B1.length + B2.length) a m q X B1 B2 [] wr (Nat.le_refl _) (by rw [List.append_nil]; exact hR) hX (by omega) (by omega) (by omega) (by omega) s1 s2 (parts_less C1 C2 B1 B2 (HD.out.sublist hsub) p1 p2)
                  (fun x hx => HL.out x (hsub.subset (by simp [p1.mem_iff.1 hx]))) (fun x hx => HL.out x (hsub.subset (by simp [p2.mem_iff.1 hx]))))
                have HNext : Hid (∀ (M' : List Nat) (w' : World), Rw w0 g q cap (X ++ (M' ++ [])) w' → M'.Pairwise (bef l) → M'.Perm (B1 ++ B2) → ∃ E, Good l b2 D E ∧ Rw w0 g q cap E w') := Lib.hid (fun M' w' h3 h4 h5 =>
                  ⟨X ++ M', hcont M' (.last _ _ (by rw [List.length_append]; omega) h4 (h5.trans (p1.append p2))), by rw [List.append_nil] at h3; exact h3⟩)
                clear HI hX hDl hsub hG hcont hR hab hm hbb c1 c2 s1 s2 p1 p2 l1 l2
                go_wp2_with fail
                refine HMer.out.mono ?_
                rintro e w5 ⟨rfl, M', h3, h4, h5⟩
                have HS5 := Lib.hid (HNext.out M' w5 h3 h4 h5)
                clear h3 h4 h5 HMer HNext
                go_wp2_with fail
                go_roundw
                case rel => exact ⟨b2, by first | rfl | go_num, by omega, hb2m, HS5⟩
                case measure => simp [intOf]; omega
              · have hmz : ¬ (m : Int) < (q : Int) := by omega
                have hone := hG.one (by omega)
                have HS5 : Hid (∃ E, Good l b2 D E ∧ Rw w0 g q cap E wr) := Lib.hid ⟨X ++ Y, hcont Y (.last _ _ (by omega) hone.1 hone.2), hR⟩
                clear HI hX hDl hsub hG hcont hR hab hm hbb hone
                go_wp2_with fail
                go_roundw
                case rel => exact ⟨b2, by first | rfl | go_num, by omega, hb2m, HS5⟩
                case measure => simp [intOf]; omega
        · have hltz : ¬ (bs : Int) < (q : Int) := by omega
          have HF : Hid (∃ E, Rw w0 g q cap E wr ∧ E.Pairwise (bef l) ∧ E.Perm D) := Lib.hid (by
            obtain ⟨E, h1, h2⟩ := HE.out
            have := h1.one (by rw [HN.out]; omega)
            exact ⟨E, h2, this.1, this.2⟩)
          go_wp2_with fail
          go_end0
          exact ⟨rfl, HF.out⟩

set_option maxRecDepth 100000 in
theorem insert_none (A : Option Addr) (c : Nat) (fv : Value) (W : World) :
    Calls Try.prog 25 #[.slice A 0 c, .int .i64 0, .int .i64 0, fv] W fun e w' => e = .returned (.tuple #[]) ∧ W = w' := by
  go_enter Try.func25, Try.ntmps25
  go_wp2
  go_loop [8] (fun s => s = .int .i64 1) (fun _ => 0)
  case atStart => rfl
  case round =>
    subst hrel
    go_wp2
    go_end0
    exact ⟨rfl, rfl⟩
set_option maxRecDepth 100000 in
theorem stable_none (A : Option Addr) (c : Nat) (fv : Value) (W : World) :
    Calls Try.prog 23 #[.slice A 0 c, .int .i64 0, fv] W fun e w' => e = .returned (.tuple #[]) ∧ W = w' := by
  go_enter Try.func23, Try.ntmps23
  go_wp2
  go_loop [7, 8] (fun s t => s = .int .i64 0 ∧ t = .int .i64 20) (fun _ _ => 0)
  case atStart => exact ⟨rfl, rfl⟩
  case round =>
    obtain ⟨rfl, rfl⟩ := hrel
    go_wp2_with (go_at_call 25; refine (insert_none _ _ _ _).mono ?_; rintro e w' ⟨rfl, rfl⟩)
    go_loop [6] (fun s => s = .int .i64 20) (fun _ => 0)
    case atStart => rfl
    case round =>
      subst hrel
      go_wp2
      go_end0
      exact ⟨rfl, rfl⟩

set_option maxRecDepth 100000 in
set_option maxHeartbeats 4000000 in
theorem sort_c (l : List Int) (w0 : World) (cb : Array Value) (hC : Cmp l w0 cb) (v : Value) (q : Nat) (D : List Nat) (W : World) (hO : Own w0 W 3 1 v q (nz D)) (hq : q ≤ 1000000) (hD : D.Pairwise (· < ·)) (hl : ∀ x ∈ D, x < l.length) :
    Calls Try.prog 20 #[v, .func (.func 21) #[] cb] W fun e w' =>
      e = .returned (.tuple #[]) ∧ ∃ E, Own w0 w' 3 1 v q (nz E) ∧ E.Pairwise (bef l) ∧ E.Perm D := by
  rcases Nat.eq_zero_or_pos q with h0 | h0
  · subst h0
    have hD0 : D = [] := List.eq_nil_of_length_eq_zero (by have := hO.1.1; rw [nz_len] at this; omega)
    subst hD0
    obtain ⟨A, c, rfl, _⟩ := hO.form
    have HO := Lib.hid hO
    clear hO hC hl hD
    go_enter Try.func20, Try.ntmps20
    go_wp2_with (go_at_call 23; refine (stable_none _ _ _ _).mono ?_; rintro e w' ⟨rfl, rfl⟩)
    go_end0
    exact ⟨rfl, [], HO.out, by simp, by simp⟩
  · obtain ⟨g, cap, rfl⟩ := own_lay hO h0
    have HS := Lib.hid (stable_c l w0 cb hC g q cap D W hO hq hD hl)
    clear hO hC hl hD
    go_enter Try.func20, Try.ntmps20
    go_wp2_with fail
    refine HS.out.mono ?_
    rintro e w' ⟨rfl, E, h1, h2, h3⟩
    have H1 := Lib.hid h1
    clear h1
    go_wp2_with fail
    go_end0
    exact ⟨rfl, E, H1.out, h2, h3⟩
end Go.Proofs.Ytdbgpmfdiljopaa.Tick
