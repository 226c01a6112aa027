/-
  WHAT THE DOCUMENT'S ANSWER FOR LAYER 9 RETURNS: Write, at, number.
-/
import Derived.Test.YtilfkohckmknkaaShapeRef
namespace Go.Proofs.Ytilfkohckmknkaa.Shape
open Go.ChangeShapes Go.WideShapes Go.ChangeAt Go.RowKit Mem Go.Proofs.Ytilfkohckmknkaa.Code

/-- What is returned: bytes, and whether there are any. -/
def RetW (w : World) (r : Option (List Int)) (e : Ending) (w' : World) : Prop :=
  ∃ B d q, e = .returned (.tuple #[.slice B q d, .bool r.isSome]) ∧ (r.getD []).length = q ∧ Rd w' 1 B q (bs (r.getD [])) ∧ Below w.heap.size w w'
theorem op_len (o : Term.Op) : (opS o).length = 5 := rfl
theorem steps_bound (c : List Step) (h : ∀ s ∈ c, FitS s) : (c.flatMap stepS).length ≤ c.length * 1300 := by
  induction c with
  | nil => simp
  | cons s c ih =>
    have h1 := (h s (List.mem_cons_self ..)).2.2.2.1
    have h2 := ih (fun x hx => h x (List.mem_cons_of_mem _ hx))
    rw [List.flatMap_cons, List.length_append, step_len, List.length_cons]; omega
theorem code_bound (c : List Step) (h : FitC c) : (codeS c).length ≤ 400000 := by
  have := steps_bound c h.2
  have := h.1
  unfold codeS; simp only [List.length_cons]; omega
theorem codes_take (l : List (List Step)) (k : Nat) (c : List Step) (hk : l[k]? = some c) : (l.take (k + 1)).flatMap codeS = (l.take k).flatMap codeS ++ codeS c := by
  rw [List.take_add_one, hk, List.flatMap_append]; simp

set_option maxRecDepth 100000 in
set_option maxHeartbeats 2000000 in
theorem refwrite (L : List RawC) (A : Option Addr) (n c : Nat) (w : World) (r : Option (List Int)) (hat : Codes w A n L) (hlim : LimC L) (hn : n ≤ 1000000) (hr : writeS (cc L) = r) :
    Calls Try.prog 12 #[.slice A n c] w (RetW w r) := by
  have HL := Lib.hid hat.len
  have HA := Lib.hid hat
  have HM := Lib.hid hlim
  have HR := Lib.hid hr
  clear hat hlim hr
  by_cases h8 : 8 < n
  · have HF : Hid (r = none) := Lib.hid (by rw [← HR.out]; exact write_many _ (by rw [cc_len, HL.out]; exact h8))
    go_enter Try.func12, Try.ntmps12
    go_wp2
    go_ret2
    exact ⟨none, 0, 0, by rw [HF.out]; rfl, by rw [HF.out]; rfl, by rw [HF.out]; exact Rd.none_, Below.refl _ _⟩
  · have HO1 : Hid (Own w (w.alloc (.cells #[.int .u8 (n : Int)] 5)) 5 1 (.slice (some ⟨w.heap.size, 0, none⟩) 1 1) 1 (bs [(n : Int)])) := Lib.hid (own_built w _ 1 1 (bs [(n : Int)]) rfl (by decide))
    go_enter Try.func12, Try.ntmps12
    go_wp2
    go_loopw [4, 5] (fun v i wr => ∃ (k u : Nat), k ≤ n ∧ i = .int .i64 k ∧ u ≤ 1 + k * 400000 ∧ Own w wr 5 1 v u (bs ((n : Int) :: ((cc L).take k).flatMap codeS)) ∧ Hid (((cc L).take k).all okB = true)) (fun _ i _ => n - (intOf i).toNat)
    case atStart => exact ⟨0, 1, Nat.zero_le _, rfl, by omega, HO1.out, Lib.hid rfl⟩
    case round =>
      obtain ⟨k, u, hk, rfl, hu, hown, HALL⟩ := hrel
      generalize wr = w1 at *
      by_cases hlt : k < n
      · obtain ⟨b, off, ⟨XA, xn, xc, xl⟩, rfl, hx, c0, hin⟩ := (HA.out.below hown.2).at_ k hlt
        simp only at c0
        have hxl := HM.out _ (List.mem_of_getElem? hx)
        simp only at hxl
        have hxn : xn ≤ 1000000 := hxl.1
        have HXL := Lib.hid hxl.2
        have HX := Lib.hid (cc_at L k _ hx)
        have HI := Lib.hid hin.1
        have HC0 := Lib.hid c0
        have HOWN := Lib.hid hown
        obtain ⟨ck, hck⟩ : ∃ x, checkS (ss xl) = x := ⟨_, rfl⟩
        have HCK := Lib.hid hck
        simp only at HX HI
        clear hx hin hxl
        go_wp2_with fail
        refine (Code.refcheck xl _ _ _ _ ck HI.out HXL.out hxn HCK.out).mono ?_
        rintro e w2 ⟨rfl, b2⟩
        have HB2 := Lib.hid b2
        have q0 := cell_up HC0.out b2
        clear b2 c0
        by_cases h0 : ck = 0
        · subst h0
          have HFT := Lib.hid (code_fit _ hck)
          have HCB := code_bound _ (code_fit _ hck)
          obtain ⟨q, hq⟩ : ∃ q, (codeS (ss xl)).length = q := ⟨_, rfl⟩
          rw [hq] at HCB
          have HQ := Lib.hid hq
          have HT := Lib.hid (codes_take (cc L) k _ HX.out)
          have HTA := Lib.hid (take_all (cc L) okB k _ HX.out)
          clear hck hq hown
          go_wp2_with (first
            | (go_at_call 16; refine (refcode xl _ _ _ _ q (HI.out.below HB2.out) HFT.out HQ.out).mono ?_; rintro e w3 ⟨v3, rfl, ho3⟩; obtain ⟨B3, d3, rfl, r3⟩ := ho3.form; have R3 := Lib.hid r3; have HB3 := Lib.hid ho3.2; clear r3 ho3)
            | (at_builtin; refine append_rd rfl _ _ 25 rfl tByte w _ u _ rfl ((HOWN.out.below HB2.out).below HB3.out) _ q _ (bs (codeS (ss xl))) rfl R3.out (bs_one _) (by omega) (by omega) ?_; intro v4 w4 ho4 hg4; have HO4 := Lib.hid ho4; clear ho4 hg4))
          go_roundw
          case rel => exact ⟨k + 1, u + q, by omega, by go_num, by omega, by rw [HT.out, ← List.cons_append, bs_app]; exact HO4.out, Lib.hid (by rw [HTA.out, HALL.out]; unfold okB; rw [HCK.out]; rfl)⟩
          case measure => simp [intOf]; omega
        · have HF : Hid (r = none) := Lib.hid (by rw [← HR.out]; exact write_bad _ k _ HX.out (by rw [HCK.out]; exact h0))
          have hne : (ck != 0) = true := by simpa using h0
          clear hck h0 hown
          go_wp2
          go_ret2
          exact ⟨none, 0, 0, by rw [HF.out]; rfl, by rw [HF.out]; rfl, by rw [HF.out]; exact Rd.none_, bl_trans HOWN.out.2 HB2.out⟩
      · have HE : Hid ((cc L).take k = cc L) := Lib.hid (List.take_of_length_le (by rw [cc_len, HL.out]; omega))
        have HF : Hid (r = some ((n : Int) :: (cc L).flatMap codeS)) := Lib.hid (by
          rw [← HR.out, write_mk _ (by rw [cc_len, HL.out]; omega) (by have := HALL.out; rwa [HE.out] at this), cc_len, HL.out])
        have ho := hown
        rw [HE.out] at ho
        obtain ⟨B, d, rfl, hrd⟩ := ho.form
        have HRD := Lib.hid hrd
        have HUQ : Hid (((n : Int) :: (cc L).flatMap codeS).length = u) := Lib.hid (by have h1 := ho.1.1; rw [bs_count] at h1; omega)
        have HB := Lib.hid ho.2
        clear hown ho hrd
        go_wp2
        go_ret2
        exact ⟨B, d, u, by rw [HF.out]; rfl, by rw [HF.out]; exact HUQ.out, by rw [HF.out]; exact HRD.out, HB.out⟩

theorem refat (b : List Int) (A : Option Addr) (n c p : Nat) (w : World) (hr : Rd w 1 A n (bs b)) (hb : BB b) (_hn : n ≤ 1000000) (_hp : p ≤ 2000000000) : ∀ z : Int, z = (p : Int) →
    Calls Try.prog 31 #[.slice A n c, .int .i64 z] w fun e w' => e = .returned (.int .i64 (hd (b.drop p))) ∧ w = w' := by
  rintro z rfl
  by_cases hlt : p < n
  · obtain ⟨g, off, x, rfl, hx, c0⟩ := at_b hr p hlt
    have hbx := hb x (List.mem_of_getElem? hx)
    have HF : Hid (hd (b.drop p) = x) := Lib.hid (by
      obtain ⟨hl, e⟩ := List.getElem?_eq_some_iff.1 hx
      rw [List.drop_eq_getElem_cons hl, e]; rfl)
    obtain ⟨x0, x1⟩ := hbx
    clear hr hb hx
    go_enter Try.func31, Try.ntmps31
    go_wp2
    go_ret
    exact ⟨ret_int HF.out.symm, rfl⟩
  · have HF : Hid (hd (b.drop p) = 0) := Lib.hid (by rw [List.drop_eq_nil_of_le (by rw [bs_len hr]; omega)]; rfl)
    clear hr hb
    go_enter Try.func31, Try.ntmps31
    go_wp2
    go_ret
    exact ⟨ret_int HF.out.symm, rfl⟩
theorem hd_bd {b : List Int} (hb : BB b) (p : Nat) : 0 ≤ hd (b.drop p) ∧ hd (b.drop p) < 256 := by
  unfold hd
  cases e : b.drop p with
  | nil => simp
  | cons x l =>
    have : x ∈ b.drop p := by rw [e]; exact List.mem_cons_self ..
    exact hb x (List.mem_of_mem_drop this)
set_option maxRecDepth 100000 in
theorem refnumber (b : List Int) (A : Option Addr) (n c p : Nat) (w : World) (hr : Rd w 1 A n (bs b)) (hb : BB b) (hn : n ≤ 1000000) (hp : p ≤ 1000000000) : ∀ z : Int, z = (p : Int) →
    Calls Try.prog 32 #[.slice A n c, .int .i64 z] w fun e w' => e = .returned (.int .i64 (num (b.drop p))) ∧ w = w' := by
  rintro z rfl
  have HR := Lib.hid hr
  have HB := Lib.hid hb
  obtain ⟨x0, hx0⟩ : ∃ x, hd (b.drop p) = x := ⟨_, rfl⟩
  obtain ⟨x1, hx1⟩ : ∃ x, hd (b.drop (p + 1)) = x := ⟨_, rfl⟩
  obtain ⟨x2, hx2⟩ : ∃ x, hd (b.drop (p + 2)) = x := ⟨_, rfl⟩
  obtain ⟨x3, hx3⟩ : ∃ x, hd (b.drop (p + 3)) = x := ⟨_, rfl⟩
  obtain ⟨a0, a1⟩ := hx0 ▸ hd_bd hb p
  obtain ⟨b0, b1⟩ := hx1 ▸ hd_bd hb (p + 1)
  obtain ⟨c0, c1⟩ := hx2 ▸ hd_bd hb (p + 2)
  obtain ⟨d0, d1⟩ := hx3 ▸ hd_bd hb (p + 3)
  have HN : Hid (num (b.drop p) = if 2147483647 < x0 * 16777216 + x1 * 65536 + x2 * 256 + x3 then x0 * 16777216 + x1 * 65536 + x2 * 256 + x3 - 4294967296 else x0 * 16777216 + x1 * 65536 + x2 * 256 + x3) := Lib.hid (by
    unfold num
    simp only [List.drop_drop]
    rw [hx0, hx1, hx2, hx3])
  have H0 := Lib.hid hx0
  have H1 := Lib.hid hx1
  have H2 := Lib.hid hx2
  have H3 := Lib.hid hx3
  clear hr hb hx0 hx1 hx2 hx3
  by_cases hbig : 2147483647 < x0 * 16777216 + x1 * 65536 + x2 * 256 + x3
  all_goals
    have T0 : True := trivial
    have T1 : True := trivial
    have T2 : True := trivial
    have T3 : True := trivial
    go_enter Try.func32, Try.ntmps32
    go_wp2_with (first
      | (go_at_call 31; clear T0; refine (refat b _ n c p _ HR.out HB.out hn (by omega) _ rfl).mono ?_; rw [H0.out]; rintro e w' ⟨rfl, rfl⟩)
      | (go_at_call 31; clear T1; refine (refat b _ n c (p + 1) _ HR.out HB.out hn (by omega) _ (by omega)).mono ?_; rw [H1.out]; rintro e w' ⟨rfl, rfl⟩)
      | (go_at_call 31; clear T2; refine (refat b _ n c (p + 2) _ HR.out HB.out hn (by omega) _ (by omega)).mono ?_; rw [H2.out]; rintro e w' ⟨rfl, rfl⟩)
      | (go_at_call 31; clear T3; refine (refat b _ n c (p + 3) _ HR.out HB.out hn (by omega) _ (by omega)).mono ?_; rw [H3.out]; rintro e w' ⟨rfl, rfl⟩))
    go_ret
    exact ⟨ret_int (by rw [HN.out]; first | rw [if_pos (by omega)] | rw [if_neg (by omega)]), rfl⟩
end Go.Proofs.Ytilfkohckmknkaa.Shape
