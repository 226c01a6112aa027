/-
  WHAT EACH FUNCTION OF THE LAYER term RETURNS, AS IT IS WRITTEN: Eval.
-/
import Derived.Test.YtcdcikjkpbcjgaaTermCode3
import Derived.Test.YtcdcikjkpbcjgaaInts
import Derived.Deep.RegionHeld3
namespace Go.Proofs.Ytcdcikjkpbcjgaa.Term
open Go.ChangeShapes Go.WideShapes Go.ChangeAt Go.RowKit Mem

/-- What is left of a slice behind a place. -/
theorem rd_tail {w : World} {B : Option Addr} {n : Nat} {xs : List Int} (h : Rd w 1 B n (zs xs)) (k d : Nat) (hk : k ≤ n) (hd : n ≤ d) : Rd w 1 (if d = k then B else B.map (·.add k)) (n - k) (zs (xs.drop k)) := by
  have hl := zs_len h
  refine ⟨by unfold zs; rw [flat_len zc_len, List.length_drop, hl], fun h0 => ?_⟩
  obtain ⟨b, off, rfl, hc⟩ := h.2 (by omega)
  rw [if_neg (by omega)]
  refine ⟨b, off + k, by simp [Mem.add_plain], fun j u hu => ?_⟩
  have e : zs xs = zs (xs.take k) ++ zs (xs.drop k) := by rw [← zs_app, List.take_append_drop]
  rw [Nat.add_assoc]
  refine hc (k + j) u ?_
  have hlk : (zs (xs.take k)).length = k := by unfold zs; rw [flat_len zc_len, List.length_take, hl]; omega
  rw [e, List.getElem?_append_right (by omega), hlk, show k + j - k = j from by omega]
  exact hu
theorem told_v (h : List Heap.Cell) (rg : List Int) (hr : Heap.rightB h = true) (o : Op) (ho : oneB o = true) (ys : List Int) (v : Int) (hv : tellS h rg o ys = some v) : Heap.vB v = true := by
  have h1 := one_kind o ho
  rcases (by omega : takes o.kind = 0 ∨ takes o.kind = 1 ∨ takes o.kind = 2 ∨ 2 < takes o.kind) with h0 | h0 | h0 | h0
  · have e : tellS h rg o ys = tellS h rg o [] := by
      have h3 := takes_0 _ h0
      unfold tellS
      rcases (by omega : o.kind = 1 ∨ o.kind = 2 ∨ o.kind = 3) with e | e | e
      all_goals simp [e]
    have := val_v h rg hr (.leaf o) h0 (by simpa [Tree.ops] using ho)
    unfold Tree.val at this
    rw [← e, hv] at this
    exact this
  · have h11 := takes_1 _ h0
    unfold tellS at hv
    rw [if_neg (by omega), if_neg (by omega), if_neg (by omega), if_pos h11] at hv
    injection hv with e; rw [← e]; exact truth_v _
  · have h2 := takes_2 _ h0
    unfold tellS at hv
    rw [if_neg (by omega), if_neg (by omega), if_neg (by omega), if_neg (by omega)] at hv
    injection hv with e; rw [← e]; exact two_v _ _ _
  · have := takes_le o.kind; omega
def runOn (h : List Heap.Cell) (rg : List Int) (t : List Op) (ys : List Int) : Option Int → Option (List Int)
  | none => none
  | some v => run h rg t (ys ++ [v])
def outOf : Option (List Int) → Int × Int
  | some (v :: _) => (v, 0)
  | _ => (0, 3)
theorem run_cons (h : List Heap.Cell) (rg : List Int) (o : Op) (t : List Op) (xs : List Int) : run h rg (o :: t) xs = runOn h rg t (xs.take (xs.length - takes o.kind)) (tellS h rg o (xs.drop (xs.length - takes o.kind))) := by
  unfold runOn; cases hv : tellS h rg o (xs.drop (xs.length - takes o.kind)) <;> simp only [run, hv]

set_option maxRecDepth 100000 in
set_option maxHeartbeats 2000000 in
theorem eval_c (l : List Op) (h : List Heap.Cell) (rg : List Int) (A D E : Option Addr) (n c m d x y : Nat) (w : World) (r : Int × Int) (hr : Rd w 2 A n (ops l)) (hh : Rd w 2 D m (Heap.cs h)) (hg : Rd w 1 E x (zs rg))
    (hn : n ≤ 1000000) (hm : m ≤ 1000000) (hv : evalS l h rg = r) :
    Calls Try.prog 10 #[.slice A n c, .slice D m d, .slice E x y] w (RetG w r) := by
  have HL := Lib.hid (ops_len hr)
  have HV := Lib.hid hv
  have HR := Lib.hid hr
  have HH := Lib.hid hh
  have HG := Lib.hid hg
  clear hr hh hg hv
  by_cases h0 : checkS l = 0
  · have H0 := Lib.hid h0
    cases h1 : Heap.rightB h
    · have H1 := Lib.hid h1
      have HF : Hid (r = (0, 1)) := Lib.hid (by rw [← HV.out]; unfold evalS; rw [if_pos h0, h1]; rfl)
      clear h0 h1
      go_enter Try.func10, Try.ntmps10
      go_wp2_with fail
      refine (check_c l _ _ _ _ 0 HR.out hn H0.out).mono ?_
      rintro e w1 ⟨rfl, b1⟩
      have HB := Lib.hid b1
      clear b1
      go_wp2_with fail
      refine (Heap.right_c h _ _ _ _ false (HH.out.below HB.out) hm H1.out).mono ?_
      rintro e w2 ⟨rfl, b2⟩
      have HB2 := Lib.hid (bl_trans HB.out b2)
      clear b2
      go_wp2
      go_ret2
      exact ⟨by rw [HF.out]; rfl, HB2.out⟩
    · have H1 := Lib.hid h1
      obtain ⟨g1, g2, g3, g4⟩ := check_ok l h0
      have HE : Hid (r = outOf (run h rg l [])) := Lib.hid (by rw [← HV.out]; unfold evalS; rw [if_pos h0, if_pos h1]; rfl)
      have HO := Lib.hid g3
      have HW : Hid (∃ p, pile l 0 0 = some p ∧ p.1 = 1) := Lib.hid (by
        unfold wellB at g4
        cases hp : pile l 0 0 with
        | none => rw [hp] at g4; cases g4
        | some p => rw [hp] at g4; exact ⟨p, rfl, by simpa using g4⟩)
      have hn12 : n ≤ 12 := by rw [← HL.out]; omega
      clear h0 h1 g1 g2 g3 g4
      go_enter Try.func10, Try.ntmps10
      go_wp2_with fail
      refine (check_c l _ _ _ _ 0 HR.out hn H0.out).mono ?_
      rintro e w1 ⟨rfl, b1⟩
      have HB := Lib.hid b1
      clear b1
      go_wp2_with fail
      refine (Heap.right_c h _ _ _ _ true (HH.out.below HB.out) hm H1.out).mono ?_
      rintro e w2 ⟨rfl, b2⟩
      have HB2 := Lib.hid (bl_trans HB.out b2)
      clear b2 HB
      go_wp2
      go_loopw [9, 25] (fun v i wr => ∃ (k q : Nat) (xs : List Int), k ≤ n ∧ q ≤ k ∧ i = .int .i64 k ∧ Own w2 wr 3 1 v q (zs xs) ∧ Hid (xs.length = q) ∧ Hid (∀ z ∈ xs, Heap.vB z = true) ∧ Hid (run h rg (l.drop k) xs = run h rg l []) ∧ Hid (∃ dd p, pile (l.drop k) q dd = some p ∧ p.1 = 1)) (fun _ i _ => n - (intOf i).toNat)
      case atStart => exact ⟨0, 0, [], Nat.zero_le _, Nat.le_refl _, rfl, Own.nil_ (Below.refl _ _), Lib.hid rfl, Lib.hid (by simp), Lib.hid rfl, Lib.hid (by obtain ⟨p, hp⟩ := HW.out; exact ⟨0, p, hp⟩)⟩
      case round =>
        obtain ⟨k, q, xs, hk, hqk, rfl, hown, HXL, HXV, HRN, HP⟩ := hrel
        generalize wr = w3 at *
        by_cases hlt : k < n
        · obtain ⟨b, off, ⟨kd, nn⟩, rfl, hx, c0, c1⟩ := at_op (HR.out.below (bl_trans HB2.out hown.2)) k hlt
          have hone : oneB ⟨kd, nn⟩ = true := List.all_eq_true.1 HO.out _ (List.mem_of_getElem? hx)
          have hkd : 1 ≤ kd ∧ kd ≤ 11 := one_kind ⟨kd, nn⟩ hone
          obtain ⟨hk1, hk2⟩ := hkd
          have hdr : l.drop k = ⟨kd, nn⟩ :: l.drop (k + 1) := by
            obtain ⟨hl, e⟩ := List.getElem?_eq_some_iff.1 hx
            rw [← e]; exact List.drop_eq_getElem_cons hl
          obtain ⟨t, ht⟩ : ∃ t, takes kd = t := ⟨_, rfl⟩
          have ht2 : t ≤ 2 := by rw [← ht]; exact takes_le kd
          have htq : t ≤ q := by
            obtain ⟨dd, p, hp, _⟩ := HP.out
            rw [hdr, pile_cons] at hp
            by_cases hc : q < t
            · rw [if_pos (by show q < takes kd; rw [ht]; exact hc)] at hp; cases hp
            · omega
          have HPN : Hid (∃ dd p, pile (l.drop (k + 1)) (q - t + 1) dd = some p ∧ p.1 = 1) := Lib.hid (by
            obtain ⟨dd, p, hp, hp1⟩ := HP.out
            rw [hdr, pile_cons, if_neg (by show ¬ q < takes kd; rw [ht]; omega)] at hp
            refine ⟨max dd (q + 1 - takes kd), p, ?_, hp1⟩
            rw [show q - t + 1 = q + 1 - takes kd from by rw [ht]; omega]
            exact hp)
          obtain ⟨s, hs⟩ : ∃ s, s = q - t := ⟨_, rfl⟩
          obtain ⟨res, hres⟩ : ∃ res, tellS h rg ⟨kd, nn⟩ (xs.drop s) = res := ⟨_, rfl⟩
          have HRUN : Hid (run h rg l [] = runOn h rg (l.drop (k + 1)) (xs.take s) res) := Lib.hid (by
              rw [← HRN.out, hdr, run_cons]
              have e : xs.length - takes (⟨kd, nn⟩ : Op).kind = s := by show xs.length - takes kd = s; rw [HXL.out, ht, hs]
              rw [e, hres])
          have HRES := Lib.hid hres
          have HT := Lib.hid ht
          have HONE := Lib.hid hone
          have hsi : (q : Int) - (t : Int) = (s : Int) := by omega
          have hsq : s ≤ q := by omega
          obtain ⟨B, bd, rfl, hqd, hrd⟩ := own_room hown
          have HOWN := Lib.hid hown
          have HRD := Lib.hid hrd
          have HST : Hid (q - s = t) := Lib.hid (by omega)
          have HBK : Hid (Blk (w3.alloc (.cells #[.int .i64 kd, .int .i64 nn] 44)) w3.heap.size 44 #[.int .i64 kd, .int .i64 nn]) := Lib.hid (Blk.new _ _ _)
          have q0 := HBK.out.cell 0 _ rfl
          have q1 := HBK.out.cell 1 _ rfl
          clear hx hdr ht hres hone hown hrd hs
          go_wp2_with (go_at_call 22; refine (takes_any kd t _ hk1 hk2 HT.out).mono ?_; rintro e w' ⟨rfl, rfl⟩)
          obtain ⟨w4, hw4⟩ : ∃ w4, w4 = w3.alloc (.cells #[.int .i64 kd, .int .i64 nn] 44) := ⟨_, rfl⟩
          have HW4 : Hid (Below w3.heap.size w3 w4) := Lib.hid (by rw [hw4]; exact bl_alloc (Below.refl _ _) _)
          rw [← hw4] at q0 q1 HBK ⊢
          have KEEP : Hid (∀ W, Below w4.heap.size w4 W → W.cell? ⟨w3.heap.size, 0, none⟩ = some (.int .i64 kd) ∧ W.cell? ⟨w3.heap.size, 1, none⟩ = some (.int .i64 nn)) := Lib.hid (fun W h => ⟨(HBK.out.below h).cell 0 _ rfl, (HBK.out.below h).cell 1 _ rfl⟩)
          have bq : Hid (Below w4.heap.size w4 w4.drew) := Lib.hid (Below.refl _ _).drew
          have HTL := Lib.hid (rd_tail HRD.out s bd hsq hqd)
          have HXD : Hid (∀ z ∈ xs.drop s, Heap.vB z = true) := Lib.hid (fun z hz => HXV.out z (List.mem_of_mem_drop hz))
          have hsb : s ≤ bd := by omega
          obtain ⟨B2, hB2⟩ : ∃ B2, (if bd = s then B else Option.map (fun x => x.add s) B) = B2 := ⟨_, rfl⟩
          rw [hB2] at HTL
          clear hw4
          cases res with
          | none =>
            have HF : Hid (r = (0, 3)) := Lib.hid (by rw [HE.out, HRUN.out]; rfl)
            go_wp2_with fail
            go_region_held3 (fun w' => w'.cell? ⟨w3.heap.size, 0, none⟩ = some (.int .i64 kd) ∧ w'.cell? ⟨w3.heap.size, 1, none⟩ = some (.int .i64 nn)) (exact KEEP.out _ bq.out)
              (first
              | (go_at_call 23
                 refine (tell_any h rg (xs.drop s) kd nn _ _ _ _ _ _ _ _ _ _ (0, 3) ((HTL.out.below HW4.out).below bq.out) (((HH.out.below (bl_trans HB2.out HOWN.out.2)).below HW4.out).below bq.out) (((HG.out.below (bl_trans HB2.out HOWN.out.2)).below HW4.out).below bq.out) hm HONE.out (HT.out.trans HST.out.symm) HXD.out H1.out (by rw [HRES.out]; rfl)).mono ?_
                 rintro e wq ⟨rfl, b_⟩
                 replace bq := Lib.hid (bl_trans bq.out b_)
                 clear b_))
            have HB5 := Lib.hid (bl_trans HW4.out bq.out)
            clear KEEP HBK q0 q1 bq
            go_wp2
            go_ret2
            exact ⟨by rw [HF.out]; rfl, bl_trans HB2.out (bl_trans HOWN.out.2 HB5.out)⟩
          | some v =>
            have HVV : Hid (Heap.vB v = true) := Lib.hid (told_v h rg H1.out _ HONE.out _ _ HRES.out)
            go_wp2_with fail
            go_region_held3 (fun w' => w'.cell? ⟨w3.heap.size, 0, none⟩ = some (.int .i64 kd) ∧ w'.cell? ⟨w3.heap.size, 1, none⟩ = some (.int .i64 nn)) (exact KEEP.out _ bq.out)
              (first
              | (go_at_call 23
                 refine (tell_any h rg (xs.drop s) kd nn _ _ _ _ _ _ _ _ _ _ (v, 0) ((HTL.out.below HW4.out).below bq.out) (((HH.out.below (bl_trans HB2.out HOWN.out.2)).below HW4.out).below bq.out) (((HG.out.below (bl_trans HB2.out HOWN.out.2)).below HW4.out).below bq.out) hm HONE.out (HT.out.trans HST.out.symm) HXD.out H1.out (by rw [HRES.out]; rfl)).mono ?_
                 rintro e wq ⟨rfl, b_⟩
                 replace bq := Lib.hid (bl_trans bq.out b_)
                 clear b_))
            have HB5 := Lib.hid (bl_trans HW4.out bq.out)
            clear KEEP HBK q0 q1 bq
            have HO5 : Hid (Own w2 wq 3 1 (.slice B s bd) s (zs (xs.take s))) := Lib.hid (by rw [← zs_taken]; exact own_first (HOWN.out.below HB5.out) s hsq)
            clear HRD HTL HOWN hB2
            go_wp2_with (at_builtin; refine append_rd rfl _ _ 24 rfl Mem.tInt w2 _ s (zs (xs.take s)) rfl (HO5.out.alloc _) _ 1 1 [.int .i64 v] rfl (Rd.built _ 1 1 [.int .i64 v] _ rfl) (one_cons rfl one_nil) (by omega) (by omega) ?_; intro v' w' hown' hg; clear hg)
            refine ⟨⟨k + 1, s + 1, xs.take s ++ [v], by omega, by have := HST.out; omega, by go_num, ?_, Lib.hid ?_, Lib.hid ?_, Lib.hid ?_, Lib.hid ?_⟩, ?_⟩
            · rw [zs_app]; exact hown'
            · rw [List.length_append, List.length_take, HXL.out, Nat.min_eq_left hsq]; rfl
            · intro z hz
              rcases List.mem_append.1 hz with hz | hz
              · exact HXV.out z (List.mem_of_mem_take hz)
              · rw [List.mem_singleton.1 hz]; exact HVV.out
            · exact HRUN.out.symm
            · rw [show s = q - t from by have := HST.out; omega]; exact HPN.out
            · simp [intOf]; omega
        · have hkn : k = n := by omega
          have hq1 : q = 1 := by
            obtain ⟨dd, p, hp, hp1⟩ := HP.out
            rw [hkn, List.drop_of_length_le (by rw [HL.out]; exact Nat.le_refl _)] at hp
            simp only [pile, Option.some.injEq] at hp
            rw [← hp] at hp1; exact hp1
          subst hq1
          obtain ⟨v, hxs⟩ : ∃ v, xs = [v] := by
            have := HXL.out
            match xs, this with
            | [v], _ => exact ⟨v, rfl⟩
          subst hxs
          have HF : Hid (r = (v, 0)) := Lib.hid (by
            rw [HE.out, ← HRN.out, hkn, List.drop_of_length_le (by rw [HL.out]; exact Nat.le_refl _)]; rfl)
          have HB5 := Lib.hid (bl_trans HB2.out hown.2)
          obtain ⟨B, bd, rfl, hqd, hrd⟩ := own_room hown
          obtain ⟨b, off, rfl, hc⟩ := hrd.2 (by omega)
          have q0 : w3.cell? ⟨b, off, none⟩ = some (.int .i64 v) := hc 0 (.int .i64 v) rfl
          clear hkn hc hrd hown
          go_wp2
          go_ret2
          exact ⟨by rw [HF.out]; rfl, HB5.out⟩
  · have HF : Hid (r = (0, checkS l)) := Lib.hid (by rw [← HV.out]; unfold evalS; rw [if_neg h0])
    obtain ⟨ck, hck⟩ : ∃ x, checkS l = x := ⟨_, rfl⟩
    rw [hck] at HF
    have HC := Lib.hid hck
    have hne : (ck != 0) = true := by rw [← hck]; simpa using h0
    clear h0 hck
    go_enter Try.func10, Try.ntmps10
    go_wp2_with fail
    refine (check_c l _ _ _ _ ck HR.out hn HC.out).mono ?_
    rintro e w1 ⟨rfl, b1⟩
    have HB := Lib.hid b1
    clear b1
    go_wp2
    go_ret2
    exact ⟨by rw [HF.out]; rfl, HB.out⟩
end Go.Proofs.Ytcdcikjkpbcjgaa.Term
