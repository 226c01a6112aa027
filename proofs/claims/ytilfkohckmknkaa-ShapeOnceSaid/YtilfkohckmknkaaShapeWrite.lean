/-
  WHAT THE FUNCTIONS Size AND Write RETURN. No conditions beyond those that each theorem states.
-/
import Derived.Test.YtilfkohckmknkaaShapeWr
import Derived.Test.YtilfkohckmknkaaCodeCode3
namespace Go.Proofs.Ytilfkohckmknkaa.Shape
open Go.ChangeShapes Go.WideShapes Go.ChangeAt Go.RowKit Mem Go.Proofs.Ytilfkohckmknkaa.Code

set_option maxRecDepth 100000 in
theorem size_c (l : List Raw) (A : Option Addr) (n c : Nat) (w : World) (m : Nat) (hat : At w A n l) (hnc : n ≤ c) (hlim : Lim l) (hn : n ≤ 1000000) (hm : sizeS (ss l) = m) :
    Calls Try.prog 17 #[.slice A n c] w (Code.RetI w m) := by
  have HA := Lib.hid hat
  have HLM := Lib.hid hlim
  obtain ⟨ck, hck⟩ : ∃ x, checkS (ss l) = x := ⟨_, rfl⟩
  have HCK := Lib.hid hck
  unfold sizeS at hm
  rw [hck] at hm
  by_cases h0 : ck = 0
  · subst h0
    rw [if_pos rfl] at hm
    have HM := Lib.hid hm
    have HFT := Lib.hid (code_fit _ hck)
    clear hat hlim hck hm
    go_enter Try.func17, Try.ntmps17
    go_wp2_with (first
      | (go_at_call 21; refine (Code.check_c l A n c _ 0 HA.out hnc HLM.out HCK.out hn).mono ?_; rintro e w2 ⟨rfl, b2⟩; have HB2 := Lib.hid b2; clear b2)
      | (go_at_call 23; refine (putcode w (.slice none 0 0) 0 [] l A n c _ m (Own.nil_ HB2.out) (by omega) HA.out HFT.out HM.out).mono ?_; rintro e w3 ⟨v3, rfl, ho3⟩; obtain ⟨B3, d3, rfl, _⟩ := ho3.form; have HB3 := Lib.hid ho3.2; clear ho3))
    go_ret
    exact ⟨by simp, HB3.out⟩
  · have hne : (ck != 0) = true := by simpa using h0
    rw [if_neg h0] at hm
    have HM := Lib.hid hm
    clear hat hlim hck hm
    go_enter Try.func17, Try.ntmps17
    go_wp2_with (go_at_call 21; refine (Code.check_c l A n c _ ck HA.out hnc HLM.out HCK.out hn).mono ?_; rintro e w2 ⟨rfl, b2⟩; have HB2 := Lib.hid b2; clear b2)
    go_ret
    exact ⟨by rw [← HM.out]; rfl, HB2.out⟩
/-- What Write returns: bytes of the call's own, or ErrArg. -/
def RetWr (w : World) (r : Option (List Int)) (e : Ending) (w' : World) : Prop :=
  ∃ B d q, e = .returned (.tuple #[.slice B q d, .int .i64 (if r.isSome then 0 else 1)]) ∧ (r.getD []).length = q ∧ Own w w' 5 1 (.slice B q d) q (bs (r.getD []))
set_option maxRecDepth 100000 in
set_option maxHeartbeats 1000000 in
theorem write_c (L : List RawC) (A : Option Addr) (n c : Nat) (w : World) (r : Option (List Int)) (hat : Codes w A n L) (hlim : LimC L) (hn : n ≤ 1000000) (hr : writeS (cc L) = r) :
    Calls Try.prog 11 #[.slice A n c] w (RetWr w r) := by
  have HL := Lib.hid hat.len
  have HA := Lib.hid hat
  have HM := Lib.hid hlim
  have HR := Lib.hid hr
  clear hat hlim hr
  by_cases h8 : 8 < n
  · have HF : Hid (r = none) := Lib.hid (by rw [← HR.out]; exact write_many _ (by rw [cc_len, HL.out]; exact h8))
    go_enter Try.func11, Try.ntmps11
    go_wp2
    go_ret2
    exact ⟨none, 0, 0, by rw [HF.out]; rfl, by rw [HF.out]; rfl, by rw [HF.out]; exact Own.nil_ (Below.refl _ _)⟩
  · have HO1 : Hid (Own w (w.alloc (.cells #[.int .u8 (n : Int)] 5)) 5 1 (.slice (some ⟨w.heap.size, 0, none⟩) 1 1) 1 (bs [(n : Int)])) := Lib.hid (own_built w _ 1 1 (bs [(n : Int)]) rfl (by decide))
    go_enter Try.func11, Try.ntmps11
    go_wp2
    go_loopw [4, 16] (fun v i wr => ∃ (k u : Nat), k ≤ n ∧ i = .int .i64 k ∧ u ≤ 1 + k * 400000 ∧ Own w wr 5 1 v u (bs ((n : Int) :: ((cc L).take k).flatMap codeS)) ∧ Hid (((cc L).take k).all okB = true)) (fun _ i _ => n - (intOf i).toNat)
    case atStart => exact ⟨0, 1, Nat.zero_le _, rfl, by omega, HO1.out, Lib.hid rfl⟩
    case round =>
      obtain ⟨k, u, hk, rfl, hu, hown, HALL⟩ := hrel
      generalize wr = w1 at *
      by_cases hlt : k < n
      · obtain ⟨b, off, ⟨XA, xn, xc, xl⟩, rfl, hx, c0, hin⟩ := (HA.out.below hown.2).at_ k hlt
        have hin0 := HA.out.2 _ (List.mem_of_getElem? hx)
        simp only at c0
        have hxl := HM.out _ (List.mem_of_getElem? hx)
        simp only at hxl
        have hxn : xn ≤ 1000000 := hxl.1
        have HXL := Lib.hid hxl.2
        have HX := Lib.hid (cc_at L k _ hx)
        have HI0 := Lib.hid hin0.1
        have HI := Lib.hid hin.1
        have hxc := hin.2.1
        have HOWN := Lib.hid hown
        obtain ⟨ck, hck⟩ : ∃ x, checkS (ss xl) = x := ⟨_, rfl⟩
        have HCK := Lib.hid hck
        simp only at HX HI HI0 hxc
        clear hx hin hxl hin0
        obtain ⟨B4, d4, rfl, _⟩ := hown.form
        by_cases h0 : ck = 0
        · subst h0
          have HFT := Lib.hid (code_fit _ hck)
          have HCB := code_bound _ (code_fit _ hck)
          obtain ⟨q, hq⟩ : ∃ q, (codeS (ss xl)).length = q := ⟨_, rfl⟩
          rw [hq] at HCB
          have HQ := Lib.hid hq
          have HT := Lib.hid (codes_take (cc L) k _ HX.out)
          have HTA := Lib.hid (take_all (cc L) okB k _ HX.out)
          clear hck hq hown
          go_wp2_with (first
            | (go_at_call 21; refine (Code.check_c xl _ _ _ _ 0 HI.out hxc HXL.out HCK.out hxn).mono ?_; rintro e w2 ⟨rfl, b2⟩; have HB2 := Lib.hid b2; clear b2)
            | (go_at_call 23; refine (putcode w (.slice B4 u d4) u _ xl _ _ _ _ q (HOWN.out.below HB2.out) (by omega) HI0.out HFT.out HQ.out).mono ?_; rintro e w3 ⟨v3, rfl, ho3⟩; have HO3 := Lib.hid ho3; clear ho3))
          go_roundw
          case rel => exact ⟨k + 1, u + q, by omega, by go_num, by omega, by rw [HT.out, ← List.cons_append]; exact HO3.out, Lib.hid (by rw [HTA.out, HALL.out]; unfold okB; rw [HCK.out]; rfl)⟩
          case measure => simp [intOf]; omega
        · have HF : Hid (r = none) := Lib.hid (by rw [← HR.out]; exact write_bad _ k _ HX.out (by rw [HCK.out]; exact h0))
          have hne : (ck != 0) = true := by simpa using h0
          clear hck h0 hown
          go_wp2_with (go_at_call 21; refine (Code.check_c xl _ _ _ _ ck HI.out hxc HXL.out HCK.out hxn).mono ?_; rintro e w2 ⟨rfl, b2⟩; have HB2 := Lib.hid b2; clear b2)
          go_ret2
          exact ⟨none, 0, 0, by rw [HF.out]; rfl, by rw [HF.out]; rfl, by rw [HF.out]; exact Own.nil_ (bl_trans HOWN.out.2 HB2.out)⟩
      · have HE : Hid ((cc L).take k = cc L) := Lib.hid (List.take_of_length_le (by rw [cc_len, HL.out]; omega))
        have HF : Hid (r = some ((n : Int) :: (cc L).flatMap codeS)) := Lib.hid (by
          rw [← HR.out, write_mk _ (by rw [cc_len, HL.out]; omega) (by have := HALL.out; rwa [HE.out] at this), cc_len, HL.out])
        have ho := hown
        rw [HE.out] at ho
        obtain ⟨B, d, rfl, hrd⟩ := ho.form
        have HO := Lib.hid ho
        have HUQ : Hid (((n : Int) :: (cc L).flatMap codeS).length = u) := Lib.hid (by have h1 := ho.1.1; rw [bs_count] at h1; omega)
        clear hown ho hrd
        go_wp2
        go_ret2
        exact ⟨B, d, u, by rw [HF.out]; rfl, by rw [HF.out]; exact HUQ.out, by rw [HF.out]; exact HO.out⟩
end Go.Proofs.Ytilfkohckmknkaa.Shape
