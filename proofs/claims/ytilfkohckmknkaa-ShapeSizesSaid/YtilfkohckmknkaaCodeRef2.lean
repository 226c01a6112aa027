/-
  WHAT THE DOCUMENT'S ANSWER FOR LAYER 8 RETURNS: well, Check, Deep.
-/
import Derived.Test.YtilfkohckmknkaaCodeRef
import Derived.Laws.Cover1
namespace Go.Proofs.Ytilfkohckmknkaa.Code
open Go.ChangeShapes Go.WideShapes Go.ChangeAt Go.RowKit Mem

/-- What is returned: a number, and a truth. -/
def RetNB (w : World) (r : Nat × Bool) (e : Ending) (w' : World) : Prop := e = .returned (.tuple #[.int .i64 (r.1 : Int), .bool r.2]) ∧ Below w.heap.size w w'
theorem at_mid {α : Type} (P Q X : List α) (s : α) (k : Nat) (hk : P.length = k) : (P ++ ((s :: X) ++ Q))[k]? = some s := by
  subst hk; rw [List.getElem?_append_right (Nat.le_refl _)]; simp

set_option maxRecDepth 100000 in
set_option maxHeartbeats 4000000 in
theorem refwell (f : Nat) : ∀ (P X Q l : List Raw) (A : Option Addr) (n c p q : Nat) (w : World) (r : Nat × Bool), X.length ≤ f → At w A n l → n ≤ 1000 → l = P ++ (X ++ Q) → P.length = p → P.length + X.length = q → (ss X).all oneB = true → wellP (ss X) = r →
    ∀ z y : Int, z = (p : Int) → y = (q : Int) → Calls Try.prog 25 #[.slice A n c, .int .i64 z, .int .i64 y] w (RetNB w r) := by
  induction f with
  | zero =>
    intro P X Q l A n c p q w r hX hat hn hl hp hq ho hr z y hz hy
    obtain rfl : X = [] := List.eq_nil_of_length_eq_zero (by omega)
    have hpq : q = p := by simp at hq; omega
    subst hpq hz hy
    have HF : Hid (r = (0, true)) := Lib.hid hr.symm
    clear hr ho hl hat hq hp
    go_enter Try.func25, Try.ntmps25
    go_wp2
    go_ret2
    exact ⟨by rw [HF.out]; rfl, Below.refl _ _⟩
  | succ f ih =>
    intro P X Q l A n c p q w r hX hat hn hl hp hq ho hr z y hz hy
    subst hz hy
    cases X with
    | nil =>
      have hpq : q = p := by simp at hq; omega
      subst hpq
      have HF : Hid (r = (0, true)) := Lib.hid hr.symm
      clear hr ho hl hat hq hp
      go_enter Try.func25, Try.ntmps25
      go_wp2
      go_ret2
      exact ⟨by rw [HF.out]; rfl, Below.refl _ _⟩
    | cons s X =>
      have hln := hat.len
      have hlen : l.length = P.length + (X.length + 1 + Q.length) := by rw [hl]; simp; omega
      have hx : l[p]? = some s := by rw [hl]; exact at_mid P Q X s p hp
      simp only [List.length_cons] at hX hq
      have hpn : p < n := by omega
      obtain ⟨b, off, ⟨⟨sd, sa, sb, st⟩, T, tn, tc⟩, rfl, hx2, c0, c1, c2, c3, _, _⟩ := hat.at_ p hpn
      obtain rfl : s = ⟨⟨sd, sa, sb, st⟩, T, tn, tc⟩ := by rw [hx] at hx2; injection hx2
      simp only at c0 c1 c2 c3
      have hss : ss (⟨⟨sd, sa, sb, st⟩, T, tn, tc⟩ :: X) = ⟨sd, sa, sb, st⟩ :: ss X := rfl
      rw [hss] at hr ho
      rw [List.all_cons, Bool.and_eq_true] at ho
      obtain ⟨ho1, ho2⟩ := ho
      have HSL := Lib.hid (ss_len X)
      have HAT := Lib.hid hat
      have HBK : Hid (Blk (w.alloc (.cells #[.int .i64 sd, .int .i64 sa, .int .i64 sb, .slice T tn tc] 58)) w.heap.size 58 #[.int .i64 sd, .int .i64 sa, .int .i64 sb, .slice T tn tc]) := Lib.hid (Blk.new _ _ _)
      have hq2 : q = p + (X.length + 1) := by omega
      have hpq : ((p : Int) == (q : Int)) = false := by apply beq_eq_false_iff_ne.2; omega
      have hxn : p + 1 + X.length = q := by omega
      obtain ⟨xl, hxl⟩ : ∃ xl, X.length = xl := ⟨_, rfl⟩
      rw [hxl] at hX hq hlen hq2 hxn
      have HXL := Lib.hid hxl
      have hqn : q ≤ n := by omega
      have hpq1 : p + 1 ≤ q := by omega
      have hd := one_d _ ho1
      simp only at hd
      have IH1 : Hid (∀ (r : Nat × Bool), wellP (ss X) = r → ∀ W, At W (some ⟨b, off, none⟩) n l → ∀ z y : Int, z = ((p + 1 : Nat) : Int) → y = (q : Int) → Calls Try.prog 25 #[.slice (some ⟨b, off, none⟩) n c, .int .i64 z, .int .i64 y] W (RetNB W r)) :=
        Lib.hid (fun r hr W hW => ih (P ++ [⟨⟨sd, sa, sb, st⟩, T, tn, tc⟩]) X Q l _ n c (p + 1) q W r (by rw [hxl]; omega) hW hn (by rw [hl]; simp) (by simp [hp]) (by simp [hp, hxl]; omega) ho2 hr)
      by_cases h4 : sd = 4
      · subst h4
        have h24 := one_skip _ ho1 rfl
        simp only at h24
        obtain ⟨h24a, h24b⟩ := h24
        by_cases hfar : (xl : Int) < sa
        · have HF : Hid (r = (0, false)) := Lib.hid (by rw [← hr]; exact well_skip _ _ rfl (by rw [HSL.out, HXL.out]; exact hfar))
          have hgt : (q : Int) < (p : Int) + 1 + sa := by omega
          clear hr ho1 ho2 hss hln hx hx2 hat hl hp ih hxl hq hq2 hlen hxn IH1
          go_enter Try.func25, Try.ntmps25
          go_wp2
          go_ret2
          exact ⟨by rw [HF.out]; rfl, bl_alloc (Below.refl _ _) _⟩
        · have HF : Hid (wellP (ss X) = r) := Lib.hid (by rw [← hr]; exact (well_plain _ _ (by simp) (by rw [HSL.out, HXL.out]; rintro ⟨_, h9⟩; exact hfar h9)).symm)
          have hgt : (p : Int) + 1 + sa ≤ (q : Int) := by omega
          clear hr ho1 ho2 hss hln hx hx2 hat hl hp ih hxl hq hq2 hlen hxn
          go_enter Try.func25, Try.ntmps25
          go_wp2_with fail
          refine (IH1.out r HF.out _ (HAT.out.alloc _) _ _ (by omega) rfl).mono ?_
          rintro e w1 ⟨rfl, b1⟩
          go_wp2
          go_ret2
          exact ⟨rfl, bl_trans (bl_alloc (Below.refl _ _) _) b1⟩
      by_cases h7 : sd = 7
      · subst h7
        obtain ⟨g1, g2, g3, g4⟩ := one_either _ ho1 rfl
        simp only at g1 g2 g3 g4
        by_cases hfar : (xl : Int) < sa + sb
        · have HF : Hid (r = (0, false)) := Lib.hid (by rw [← hr]; exact well_out _ _ rfl (by rw [HSL.out, HXL.out]; exact hfar))
          have hgt : (q : Int) < (p : Int) + 1 + sa + sb := by omega
          clear hr ho1 ho2 hss hln hx hx2 hat hl hp ih hxl hq hq2 hlen hxn IH1
          go_enter Try.func25, Try.ntmps25
          go_wp2
          go_ret2
          exact ⟨by rw [HF.out]; rfl, bl_alloc (Below.refl _ _) _⟩
        · obtain ⟨U, V, R, hX2, hsa, hsb⟩ := either_parts X sa sb (by omega) (by omega) (by rw [hxl]; omega)
          obtain ⟨ul, hul⟩ : ∃ x, U.length = x := ⟨_, rfl⟩
          obtain ⟨vl, hvl⟩ : ∃ x, V.length = x := ⟨_, rfl⟩
          have hrl : xl = ul + (vl + R.length) := by rw [← hxl, hX2]; simp [hul, hvl]
          rw [hul] at hsa
          rw [hvl] at hsb
          have hall : (ss U).all oneB = true ∧ (ss V).all oneB = true ∧ (ss R).all oneB = true := by
            rw [hX2, ss_app, ss_app, List.all_append, List.all_append, Bool.and_eq_true, Bool.and_eq_true] at ho2; exact ho2
          obtain ⟨pm, hpm⟩ : ∃ x, x = p + 1 + ul := ⟨_, rfl⟩
          obtain ⟨pe, hpe⟩ : ∃ x, x = pm + vl := ⟨_, rfl⟩
          obtain ⟨⟨ud, ub⟩, hU⟩ : ∃ x, wellP (ss U) = x := ⟨_, rfl⟩
          obtain ⟨⟨vd, vb⟩, hV⟩ : ∃ x, wellP (ss V) = x := ⟨_, rfl⟩
          obtain ⟨⟨rd, rb⟩, hR⟩ : ∃ x, wellP (ss R) = x := ⟨_, rfl⟩
          have dU : ud ≤ 1000 := by have := well_deep _ (ss U) (Nat.le_refl _) hall.1; rw [hU, ss_len] at this; simp only at this; omega
          have dV : vd ≤ 1000 := by have := well_deep _ (ss V) (Nat.le_refl _) hall.2.1; rw [hV, ss_len] at this; simp only at this; omega
          have dR : rd ≤ 1000 := by have := well_deep _ (ss R) (Nat.le_refl _) hall.2.2; rw [hR, ss_len] at this; simp only at this; omega
          have HF : Hid (r = (max (max rd (1 + ud)) (1 + vd), (ub && vb) && rb)) := Lib.hid (by
            rw [← hr, hX2, ss_app, ss_app, well_either _ (ss U) (ss V) (ss R) rfl (by rw [ss_len, hul]; exact hsa) (by rw [ss_len, hvl]; exact hsb), hU, hV, hR])
          have IU : Hid (∀ W, At W (some ⟨b, off, none⟩) n l → ∀ z y : Int, z = ((p + 1 : Nat) : Int) → y = (pm : Int) → Calls Try.prog 25 #[.slice (some ⟨b, off, none⟩) n c, .int .i64 z, .int .i64 y] W (RetNB W (ud, ub))) :=
            Lib.hid (fun W hW => ih (P ++ [⟨⟨7, sa, sb, st⟩, T, tn, tc⟩]) U (V ++ (R ++ Q)) l _ n c (p + 1) pm W _ (by omega) hW hn (by rw [hl, hX2]; simp) (by simp [hp]) (by simp [hp, hul]; omega) hall.1 hU)
          have IV : Hid (∀ W, At W (some ⟨b, off, none⟩) n l → ∀ z y : Int, z = (pm : Int) → y = (pe : Int) → Calls Try.prog 25 #[.slice (some ⟨b, off, none⟩) n c, .int .i64 z, .int .i64 y] W (RetNB W (vd, vb))) :=
            Lib.hid (fun W hW => ih (P ++ ([⟨⟨7, sa, sb, st⟩, T, tn, tc⟩] ++ U)) V (R ++ Q) l _ n c pm pe W _ (by omega) hW hn (by rw [hl, hX2]; simp) (by simp [hp, hul]; omega) (by simp [hp, hul, hvl]; omega) hall.2.1 hV)
          have IR : Hid (∀ W, At W (some ⟨b, off, none⟩) n l → ∀ z y : Int, z = (pe : Int) → y = (q : Int) → Calls Try.prog 25 #[.slice (some ⟨b, off, none⟩) n c, .int .i64 z, .int .i64 y] W (RetNB W (rd, rb))) :=
            Lib.hid (fun W hW => ih (P ++ ([⟨⟨7, sa, sb, st⟩, T, tn, tc⟩] ++ (U ++ V))) R Q l _ n c pe q W _ (by omega) hW hn (by rw [hl, hX2]; simp) (by simp [hp, hul, hvl]; omega) (by simp [hp, hul, hvl]; omega) hall.2.2 hR)
          have em : (p : Int) + 1 + sa = (pm : Int) := by omega
          have ee : (pm : Int) + sb = (pe : Int) := by omega
          have hle : pe ≤ q := by omega
          have hmn : pm ≤ 1000 := by omega
          have hen : pe ≤ 1000 := by omega
          clear hr ho1 ho2 hss hln hx hx2 hat hl hp ih hxl hq hq2 hlen hxn IH1 hall hU hV hR hX2 hul hvl hrl hpm hpe hsa hsb hfar
          go_enter Try.func25, Try.ntmps25
          go_wp2_with fail
          refine (IU.out _ (HAT.out.alloc _) _ _ (by omega) rfl).mono ?_
          rintro e w1 ⟨rfl, b1⟩
          have bb := Lib.hid (bl_trans (bl_alloc (Below.refl _ _) _) b1)
          clear b1
          go_wp2_with fail
          refine (IV.out _ (HAT.out.below bb.out) _ _ rfl rfl).mono ?_
          rintro e w2 ⟨rfl, b1⟩
          replace bb := Lib.hid (bl_trans bb.out b1)
          clear b1
          go_wp2_with fail
          refine (IR.out _ (HAT.out.below bb.out) _ _ rfl rfl).mono ?_
          rintro e w3 ⟨rfl, b1⟩
          replace bb := Lib.hid (bl_trans bb.out b1)
          clear b1
          obtain ⟨mx, hmx⟩ : ∃ mx : Nat, max (max rd (1 + ud)) (1 + vd) = mx := ⟨_, rfl⟩
          have hmi : (if (1 : Int) + (vd : Int) > (if (1 : Int) + (ud : Int) > (rd : Int) then 1 + (ud : Int) else (rd : Int)) then 1 + (vd : Int) else (if (1 : Int) + (ud : Int) > (rd : Int) then 1 + (ud : Int) else (rd : Int))) = (mx : Int) := by
            rw [← hmx]
            split <;> split <;> omega
          rw [hmx] at HF
          clear hmx
          cases ub <;> cases vb <;> cases rb
          all_goals
            go_wp2
            go_ret2
            exact ⟨by rw [HF.out]; rfl, bb.out⟩
      · have HF : Hid (wellP (ss X) = r) := Lib.hid (by rw [← hr]; exact (well_plain _ _ h7 (fun h9 => h4 h9.1)).symm)
        have e4 : (sd == 4) = false := beq_eq_false_iff_ne.2 h4
        have e7 : (sd != 7) = true := by simpa using h7
        clear hr ho1 ho2 hss hln hx hx2 hat hl hp ih hxl hq hq2 hlen hxn h4 h7
        go_enter Try.func25, Try.ntmps25
        go_wp2_with fail
        refine (IH1.out r HF.out _ (HAT.out.alloc _) _ _ (by omega) rfl).mono ?_
        rintro e w1 ⟨rfl, b1⟩
        go_wp2
        go_ret2
        exact ⟨rfl, bl_trans (bl_alloc (Below.refl _ _) _) b1⟩
end Go.Proofs.Ytilfkohckmknkaa.Code
