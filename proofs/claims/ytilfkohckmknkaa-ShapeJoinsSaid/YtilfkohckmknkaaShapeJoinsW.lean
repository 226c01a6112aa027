/-
  THE WALK OF THE LAW ShapeJoins.
-/
import Derived.Test.YtilfkohckmknkaaShapeAwake
import Derived.Test.YtilfkohckmknkaaShapeLaw
namespace Go.Proofs.Ytilfkohckmknkaa.Shape
open Go.ChangeShapes Go.WideShapes Go.ChangeAt Go.RowKit Mem Go.Proofs.Ytilfkohckmknkaa.Code

theorem str_app (a b : List Int) : strOfNums (a ++ b) = strOfNums a ++ strOfNums b := by
  unfold strOfNums; rw [List.map_append, ByteArray.mk_append_mk]
theorem run_strs {P : Program} (a b : List Int) (ha : a.length ≤ 8000000) (hb : b.length ≤ 8000000) (w : World) : (Op.stringOp .add (strOfNums a) (strOfNums b)).run P w = .ok (.string (strOfNums (a ++ b))) w := by
  rw [run_string_add w (strOfNums a) (strOfNums b) (by rw [strOfNums_size]; omega) (by rw [strOfNums_size]; omega), str_app]
theorem small_in {w : World} {A : Option Addr} {n : Nat} {L : List RawC} (h : Codes w A n L) (hs : smallC L = true) : LimC L ∧ n ≤ 12 := by
  obtain ⟨h1, h2⟩ := small_limC L (fun x hx => ((h.2 x hx).1).len) hs
  exact ⟨h1, by rw [← h.len]; exact h2⟩
theorem write_one (c : List Step) (h : checkS c = 0) : writeS [c] = some ((1 : Int) :: codeS c) := by
  rw [write_mk [c] (by simp) (by simp [okB, h])]; simp
theorem take_most (C : Nat) (L : List (List Step)) (k : Nat) (h : ∀ c ∈ L, (codeS c).length ≤ C) : ((L.take k).flatMap codeS).length ≤ k * C := by
  induction k with
  | zero => simp
  | succ k ih =>
    rw [Nat.succ_mul]
    rcases Nat.lt_or_ge k L.length with hk | hk
    · have hx := List.getElem?_eq_getElem hk
      rw [codes_take L k _ hx, List.length_append]
      have := h _ (List.getElem_mem hk)
      omega
    · rw [List.take_of_length_le (by omega)]
      rw [List.take_of_length_le hk] at ih
      omega
theorem take_bound (L : List (List Step)) (k : Nat) (h : ∀ c ∈ L, checkS c = 0) : ((L.take k).flatMap codeS).length ≤ k * 400000 :=
  take_most 400000 L k (fun c hc => code_bound c (code_fit c (h c hc)))
set_option maxRecDepth 100000 in
set_option maxHeartbeats 2000000 in
theorem joins_walk (A : Option Addr) (n c : Nat) (L : List RawC) (w : World) (hcm : n ≤ 9223372036854775807) (hat : Codes w A n L) :
    Calls Try.prog 7 #[.slice A n c] w (RetB w true) := by
  have HA := Lib.hid hat
  cases hs : smallC L with
  | false =>
    have HS := Lib.hid hs
    clear hat hs
    go_enter Try.func7, Try.ntmps7
    go_wp2_with fail
    refine (small_l L _ _ _ _ false HA.out hcm HS.out).mono ?_
    rintro e w1 ⟨rfl, b_⟩
    go_wp2_with fail
    refine (awake_any _).mono ?_
    rintro e w2 ⟨rfl, b2_⟩
    go_wp2
    go_ret
    exact ⟨rfl, bl_trans b_ b2_⟩
  | true =>
    obtain ⟨hlim, h12⟩ := small_in hat hs
    have HS := Lib.hid hs
    have HLM := Lib.hid hlim
    have HL := Lib.hid hat.len
    obtain ⟨r, hr⟩ : ∃ r, writeS (cc L) = r := ⟨_, rfl⟩
    have HR := Lib.hid hr
    clear hat hs hlim hr
    cases r with
    | none =>
      go_enter Try.func7, Try.ntmps7
      go_wp2_with fail
      refine (small_l L _ _ _ _ true HA.out hcm HS.out).mono ?_
      rintro e w1 ⟨rfl, b_⟩
      have bb := Lib.hid b_
      clear b_
      go_wp2_with fail
      refine (write_n L _ _ _ _ (HA.out.below bb.out) HLM.out (by omega) HR.out).mono ?_
      rintro e w2 ⟨B2, d2, rfl, ho2⟩
      replace bb := Lib.hid (bl_trans bb.out ho2.2)
      clear ho2
      go_wp2_with fail
      refine (awake_any _).mono ?_
      rintro e w3 ⟨rfl, b_⟩
      replace bb := Lib.hid (bl_trans bb.out b_)
      clear b_
      go_wp2
      go_ret
      exact ⟨rfl, bb.out⟩
    | some b =>
      obtain ⟨q, hq⟩ : ∃ q, b.length = q := ⟨_, rfl⟩
      have HQ := Lib.hid hq
      obtain ⟨h8, hal, hbb⟩ := write_ok HR.out
      have hn8 : n ≤ 8 := by rw [cc_len, HL.out] at h8; exact h8
      have HCK : Hid (∀ c ∈ cc L, checkS c = 0) := Lib.hid (fun c hc => by have := List.all_eq_true.1 hal c hc; unfold okB at this; simpa using this)
      have HBB : Hid (b = (n : Int) :: (cc L).flatMap codeS) := Lib.hid (by rw [hbb, cc_len, HL.out])
      clear hq h8 hal hbb
      go_enter Try.func7, Try.ntmps7
      go_wp2_with fail
      refine (small_l L _ _ _ _ true HA.out hcm HS.out).mono ?_
      rintro e w1 ⟨rfl, b_⟩
      have bb := Lib.hid b_
      clear b_
      go_wp2_with fail
      refine (write_y L _ _ _ _ b q (HA.out.below bb.out) HLM.out (by omega) HR.out HQ.out).mono ?_
      rintro e w2 ⟨B2, d2, rfl, ho2⟩
      replace bb := Lib.hid (bl_trans bb.out ho2.2)
      obtain ⟨_, _, hr2⟩ := own_lims ho2
      have R2 : Hid (Rd w2 1 B2 q (bs b)) := Lib.hid hr2
      clear ho2 hr2
      have k0 : (convert 25 9 (.slice (some ⟨w2.heap.size, 0, none⟩) 1 1)).run Try.prog (w2.alloc (.cells #[.int .u8 (n : Int)] 5)) = .ok (.string (strOfNums [(n : Int)])) (w2.alloc (.cells #[.int .u8 (n : Int)] 5)) :=
        run_str (P := Try.prog) (c := 1) (Rd.built w2 1 1 (bs [(n : Int)]) 5 rfl) 25 5 9 Try.underlying25 Try.underlying5 Try.underlying9
      have bb3 : Hid (Below w.heap.size w (w2.alloc (.cells #[.int .u8 (n : Int)] 5))) := Lib.hid (bl_alloc bb.out _)
      have R3 : Hid (Rd (w2.alloc (.cells #[.int .u8 (n : Int)] 5)) 1 B2 q (bs b)) := Lib.hid (R2.out.alloc _)
      go_wp2
      clear k0
      generalize w2.alloc (.cells #[.int .u8 (n : Int)] 5) = w3 at *
      go_loopw [5, 34] (fun v i wr => ∃ k : Nat, k ≤ n ∧ i = .int .i64 k ∧ v = .string (strOfNums ([(n : Int)] ++ ((cc L).take k).flatMap codeS)) ∧ Hid (Below w3.heap.size w3 wr)) (fun _ i _ => n - (intOf i).toNat)
      case atStart => exact ⟨0, Nat.zero_le _, rfl, by rw [List.take_zero, List.flatMap_nil, List.append_nil], Lib.hid (Below.refl _ _)⟩
      case round =>
        obtain ⟨k, hk, rfl, rfl, bk⟩ := hrel
        generalize wr = w5 at *
        by_cases hlt : k < n
        · obtain ⟨bA, off, ⟨XA, xn, xc, xl⟩, rfl, hx, c0, hin⟩ := ((HA.out.below bb3.out).below bk.out).at_ k hlt
          simp only at c0
          have hxl := HLM.out _ (List.mem_of_getElem? hx)
          simp only at hxl
          have hxn : xn ≤ 1000000 := hxl.1
          have HXL := Lib.hid hxl.2
          have HI := Lib.hid hin.1
          have hxc := hin.2.1
          have hxm := hin.2.2
          simp only at HI hxc hxm
          have hxa := cc_at L k _ hx
          have hck : checkS (ss xl) = 0 := HCK.out _ (List.mem_of_getElem? hxa)
          obtain ⟨m, hm⟩ : ∃ m, (codeS (ss xl)).length = m := ⟨_, rfl⟩
          have hmb : m ≤ 400000 := by rw [← hm]; exact code_bound _ (code_fit _ hck)
          obtain ⟨qq, hqq⟩ : ∃ qq, 1 + m = qq := ⟨_, rfl⟩
          have hqm : qq - 1 = m := by omega
          have hq1 : 1 ≤ qq := by omega
          have HSZ : Hid (sizeS (ss xl) = m) := Lib.hid (by unfold sizeS; rw [if_pos hck]; exact hm)
          have HWO : Hid (writeS (cc [⟨XA, xn, xc, xl⟩]) = some ((1 : Int) :: codeS (ss xl))) := Lib.hid (write_one _ hck)
          have HWL : Hid (((1 : Int) :: codeS (ss xl)).length = qq) := Lib.hid (by rw [List.length_cons, hm]; omega)
          have HT := Lib.hid (codes_take (cc L) k _ hxa)
          have HCO : Hid (Codes (w5.alloc (.cells (hs [⟨XA, xn, xc, xl⟩]).toArray 33)) (some ⟨w5.heap.size, 0, none⟩) 1 [⟨XA, xn, xc, xl⟩]) := Lib.hid (codes_one HI.out hxc hxm _ rfl)
          have hln : ([(n : Int)] ++ ((cc L).take k).flatMap codeS).length ≤ 8000000 := by
            have := take_bound (cc L) k HCK.out
            rw [List.length_append, List.length_singleton]; omega
          obtain ⟨X, hX⟩ : ∃ X, [(n : Int)] ++ ((cc L).take k).flatMap codeS = X := ⟨_, rfl⟩
          rw [hX] at hln ⊢
          have HX := Lib.hid hX
          have hkS := run_strs (P := Try.prog) X (codeS (ss xl)) hln (by omega)
          clear hx hin hxl hck hm hxa hX
          go_wp2_with fail
          refine (write_y [⟨XA, xn, xc, xl⟩] _ _ _ _ ((1 : Int) :: codeS (ss xl)) qq HCO.out (limc_one hxn HXL.out) (by decide) HWO.out HWL.out).mono ?_
          rintro e w6 ⟨B6, d6, rfl, ho6⟩
          obtain ⟨hd6, hm6, hr6⟩ := own_lims ho6
          have HB6 := Lib.hid (bl_trans (bl_alloc (Below.refl w5.heap.size w5) _) ho6.2)
          have R6 := Lib.hid hr6
          clear ho6 hr6
          go_wp2_with fail
          refine (size_c xl _ _ _ _ m (HI.out.below HB6.out) hxc HXL.out hxn HSZ.out).mono ?_
          rintro e w7 ⟨rfl, b_⟩
          have HB7 := Lib.hid (bl_trans HB6.out b_)
          replace R6 := Lib.hid (R6.out.below b_)
          clear b_
          obtain ⟨g6, o6, hg6, _⟩ := R6.out.2 hq1
          subst hg6
          obtain ⟨B7, hB7⟩ : ∃ B7, (if d6 = 1 then some (⟨g6, o6, none⟩ : Addr) else some ⟨g6, o6 + 1, none⟩) = B7 := ⟨_, rfl⟩
          obtain ⟨d7, hd7⟩ : ∃ d7, d6 - 1 = d7 := ⟨_, rfl⟩
          have hr7 := rd_behind R6.out 1 d6 hq1 hd6
          have e7 : (if d6 = 1 then some (⟨g6, o6, none⟩ : Addr) else Option.map (fun x : Addr => x.add 1) (some (⟨g6, o6, none⟩ : Addr))) = B7 := by rw [← hB7]; simp [Mem.add_plain]
          rw [e7, hqm, List.drop_one, List.tail_cons] at hr7
          clear e7
          have k3 := run_str (P := Try.prog) (c := d7) hr7 25 5 9 Try.underlying25 Try.underlying5 Try.underlying9
          have hcmp : ((qq : Int) != 1 + (m : Int)) = false := by
            have : (qq : Int) = 1 + (m : Int) := by omega
            rw [this]; simp
          have hd1 : 1 ≤ d6 := by omega
          clear hr7 hqq R6
          go_wp2
          go_roundw
          case rel => exact ⟨k + 1, by omega, by go_num, by rw [HT.out, ← List.append_assoc, HX.out], Lib.hid (bl_trans bk.out HB7.out)⟩
          case measure => simp [intOf]; omega
        · have hkn : k = n := by omega
          have k1 := run_str (P := Try.prog) (c := d2) (R3.out.below bk.out) 25 5 9 Try.underlying25 Try.underlying5 Try.underlying9
          have hwant : [(n : Int)] ++ ((cc L).take k).flatMap codeS = b := by
            rw [List.take_of_length_le (by rw [cc_len, HL.out]; omega), HBB.out]; rfl
          rw [hwant]
          have bf := Lib.hid (bl_trans bb3.out bk.out)
          clear hwant
          go_wp2_with fail
          refine (awake_any _).mono ?_
          rintro e w11 ⟨rfl, b_⟩
          have bg := Lib.hid (bl_trans bf.out b_)
          clear b_
          go_wp2
          go_ret
          exact ⟨rfl, bg.out⟩
end Go.Proofs.Ytilfkohckmknkaa.Shape
