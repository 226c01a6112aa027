/-
  WHAT THE FUNCTIONS OF THE LAYER sleep RETURN, AS THEY ARE WRITTEN: Find, Drop.
-/
import Derived.Test.YtddgdhaioomnnaaSleepCode3
import Derived.Test.YtddgdhaioomnnaaSleepIns3
import Derived.Test.YtddgdhaioomnnaaSleepDel
namespace Go.Proofs.Ytddgdhaioomnnaa.Sleep
open Go.ChangeShapes Go.WideShapes Go.ChangeAt Go.RowKit Mem
open Heap (Write)

/-- What is returned: a sleeper, and an error's number. -/
def RetFS (w : World) (r : Sl × Int) (e : Ending) (w' : World) : Prop :=
  ∃ y, e = .returned (.tuple #[.agg (cS y), .int .i64 r.2]) ∧ st y = r.1 ∧ Inner w' y ∧ Lim1 y ∧ Below w.heap.size w w'
theorem inner_zero (w : World) : Inner w ⟨0, 0, 0, none, 0, 0, [], none, 0, 0, []⟩ := ⟨Rd.none_, Rd.none_⟩
theorem below_set5 {w w1 : World} {g : Nat} (h : Below w.heap.size w w1) (hg : w.heap.size ≤ g) (a b c d e : Value) :
    Below w.heap.size w (((((w1.setCell ⟨g, 0, none⟩ a).setCell ⟨g, 1, none⟩ b).setCell ⟨g, 2, none⟩ c).setCell ⟨g, 3, none⟩ d).setCell ⟨g, 4, none⟩ e) :=
  bl_set (p := ⟨g, 4, none⟩) (bl_set (p := ⟨g, 3, none⟩) (bl_set (p := ⟨g, 2, none⟩) (bl_set (p := ⟨g, 1, none⟩) (bl_set (p := ⟨g, 0, none⟩) h hg _) hg _) hg _) hg _) hg _
set_option maxRecDepth 100000 in
set_option maxHeartbeats 4000000 in
theorem findS_c (L : List RawS) (A : Option Addr) (n c : Nat) (cl : Int) (w : World) (r : Sl × Int) (hr : Sls w A n L) (hn : n ≤ 1000000) (hl : Lim L) (ha : findS (cc L) cl = r) :
    Calls Try.prog 13 #[.slice A n c, .int .i64 cl] w (RetFS w r) := by
  have HR := Lib.hid hr
  have HLim := Lib.hid hl
  have HLen := Lib.hid hr.len
  have HA := Lib.hid ha
  clear hr hl ha
  obtain ⟨w1, hw1⟩ : ∃ w1, w1 = w.alloc (.cells #[.int .i64 0, .int .i64 0, .int .i64 0, .slice none 0 0, .slice none 0 0] 36) := ⟨_, rfl⟩
  have HBK : Hid (Blk w1 w.heap.size 36 #[.int .i64 0, .int .i64 0, .int .i64 0, .slice none 0 0, .slice none 0 0]) := Lib.hid (by rw [hw1]; exact Blk.new _ _ _)
  have HB1 : Hid (Below w.heap.size w w1) := Lib.hid (by rw [hw1]; exact bl_alloc (Below.refl _ _) _)
  obtain ⟨b1, h1⟩ : ∃ b, rightB (cc L) = b := ⟨_, rfl⟩
  have H1 := Lib.hid h1
  have HRC := Lib.hid (right_c L A n c w1 b1 (HR.out.below HB1.out) hn HLim.out h1)
  clear h1
  go_enter Try.func13, Try.ntmps13
  go_wp2_with fail
  rw [← hw1]
  clear hw1
  refine HRC.out.mono ?_
  rintro e w2 ⟨rfl, b2⟩
  have HB2 := Lib.hid (bl_trans HB1.out b2)
  have K2 := Lib.hid (HBK.out.below b2)
  clear b2 HRC HBK
  cases b1
  · have HF : Hid (r = (zero, 1)) := Lib.hid (by rw [← HA.out]; unfold findS; rw [H1.out]; rfl)
    have d0 := K2.out.cell 0 _ rfl
    have d1 := K2.out.cell 1 _ rfl
    have d2 := K2.out.cell 2 _ rfl
    have d3 := K2.out.cell 3 _ rfl
    have d4 := K2.out.cell 4 _ rfl
    have df := K2.out.frozen
    go_wp2_with fail
    have P2 := ((((K2.out.set_ 0 (.int .i64 0)).set_ 1 (.int .i64 0)).set_ 2 (.int .i64 0)).set_ 3 (.slice none 0 0)).set_ 4 (.slice none 0 0)
    have g0 := P2.cell 0 _ rfl
    have g1 := P2.cell 1 _ rfl
    have g2 := P2.cell 2 _ rfl
    have g3 := P2.cell 3 _ rfl
    have g4 := P2.cell 4 _ rfl
    clear P2
    (try simp only [Exit.inBlock, Exit.then])
    refine bodyPost_ret (v := .tuple #[.agg #[.int .i64 0, .int .i64 0, .int .i64 0, .slice none 0 0, .slice none 0 0], .int .i64 1]) (by simp [results, Try.results13, go_sem, g0, g1, g2, g3, g4]) rfl ?_
    exact ⟨⟨0, 0, 0, none, 0, 0, [], none, 0, 0, []⟩, by rw [HF.out]; rfl, by rw [HF.out]; rfl, inner_zero _, ⟨by decide, by decide⟩, below_set5 HB2.out (Nat.le_refl _) _ _ _ _ _⟩
  · obtain ⟨f, hf⟩ : ∃ f, hasB (cc L) cl = f := ⟨_, rfl⟩
    have HF0 := Lib.hid hf
    have HFC := Lib.hid (find_c L A n c cl w2 f (HR.out.below HB2.out) hn H1.out hf)
    clear hf
    go_wp2_with fail
    refine HFC.out.mono ?_
    rintro e w3 ⟨p, rfl, hp, b3⟩
    have HB3 := Lib.hid (bl_trans HB2.out b3)
    have K3 := Lib.hid (K2.out.below b3)
    have HP := Lib.hid hp
    clear b3 hp HFC
    cases f
    · have HF : Hid (r = (zero, 3)) := Lib.hid (by rw [← HA.out]; unfold findS; rw [if_pos H1.out, find_none _ _ HF0.out])
      have d0 := K3.out.cell 0 _ rfl
      have d1 := K3.out.cell 1 _ rfl
      have d2 := K3.out.cell 2 _ rfl
      have d3 := K3.out.cell 3 _ rfl
      have d4 := K3.out.cell 4 _ rfl
      have df := K3.out.frozen
      go_wp2_with fail
      have P2 := ((((K3.out.set_ 0 (.int .i64 0)).set_ 1 (.int .i64 0)).set_ 2 (.int .i64 0)).set_ 3 (.slice none 0 0)).set_ 4 (.slice none 0 0)
      have g0 := P2.cell 0 _ rfl
      have g1 := P2.cell 1 _ rfl
      have g2 := P2.cell 2 _ rfl
      have g3 := P2.cell 3 _ rfl
      have g4 := P2.cell 4 _ rfl
      clear P2
      (try simp only [Exit.inBlock, Exit.then])
      refine bodyPost_ret (v := .tuple #[.agg #[.int .i64 0, .int .i64 0, .int .i64 0, .slice none 0 0, .slice none 0 0], .int .i64 3]) (by simp [results, Try.results13, go_sem, g0, g1, g2, g3, g4]) rfl ?_
      exact ⟨⟨0, 0, 0, none, 0, 0, [], none, 0, 0, []⟩, by rw [HF.out]; rfl, by rw [HF.out]; rfl, inner_zero _, ⟨by decide, by decide⟩, below_set5 HB3.out (Nat.le_refl _) _ _ _ _ _⟩
    · obtain ⟨s, hs, -, hfs⟩ := found_find _ _ _ HP.out
      obtain ⟨x0, hx0, hst0⟩ := cc_get L p s hs
      have hpn : p < n := by have := (List.getElem?_eq_some_iff.1 hx0).1; rw [HLen.out] at this; exact this
      obtain ⟨b5, off, x, rfl, hx, c0, c1, c2, c3, c4, hin⟩ := (HR.out.below HB3.out).at_ p hpn
      have hxx : x = x0 := by rw [hx] at hx0; injection hx0
      subst hxx
      have HF : Hid (r = (st x, 0)) := Lib.hid (by rw [← HA.out]; unfold findS; rw [if_pos H1.out, hfs, hst0])
      have HC := Lib.hid (clone1_c x w3 hin (HLim.out.at_ p x hx))
      clear hs hfs hx0 hst0 hx hin
      obtain ⟨xw, xm, xt, xA, xn, xc, xW, xB, xk, xd, xT⟩ := x
      simp only [cS] at HC
      go_wp2_with fail
      refine HC.out.mono ?_
      rintro e w4 ⟨y, rfl, hst, hin, hly, hnw, hb⟩
      have HB4 := Lib.hid (bl_trans HB3.out hb)
      have K4 := Lib.hid (K3.out.below hb)
      have HST := Lib.hid hst
      have HNI := Lib.hid hin
      have HLY := Lib.hid hly
      have HNW := Lib.hid hnw
      have HLT : Hid (w.heap.size < w3.heap.size) := Lib.hid K3.out.lt
      clear hst hin hly hnw hb HC c0 c1 c2 c3 c4
      obtain ⟨yw, ym, yt, yA, yn, yc, yW, yB, yk, yd, yT⟩ := y
      simp only [cS]
      have d0 := K4.out.cell 0 _ rfl
      have d1 := K4.out.cell 1 _ rfl
      have d2 := K4.out.cell 2 _ rfl
      have d3 := K4.out.cell 3 _ rfl
      have d4 := K4.out.cell 4 _ rfl
      have df := K4.out.frozen
      go_wp2_with fail
      have P2 := ((((K4.out.set_ 0 (.int .i64 yw)).set_ 1 (.int .i64 ym)).set_ 2 (.int .i64 yt)).set_ 3 (.slice yA yn yc)).set_ 4 (.slice yB yk yd)
      have g0 := P2.cell 0 _ rfl
      have g1 := P2.cell 1 _ rfl
      have g2 := P2.cell 2 _ rfl
      have g3 := P2.cell 3 _ rfl
      have g4 := P2.cell 4 _ rfl
      clear P2
      (try simp only [Exit.inBlock, Exit.then])
      have hA : Hid (∀ b off, yA = some ⟨b, off, none⟩ → 0 < yn → b ≠ w.heap.size) := Lib.hid (fun b off e hn' => by have := HNW.out.1 b off e hn'; have := HLT.out; omega)
      have hB : Hid (∀ b off, yB = some ⟨b, off, none⟩ → 0 < yk → b ≠ w.heap.size) := Lib.hid (fun b off e hn' => by have := HNW.out.2 b off e hn'; have := HLT.out; omega)
      refine bodyPost_ret (v := .tuple #[.agg #[.int .i64 yw, .int .i64 ym, .int .i64 yt, .slice yA yn yc, .slice yB yk yd], .int .i64 0]) (by simp [results, Try.results13, go_sem, g0, g1, g2, g3, g4]) rfl ?_
      refine ⟨⟨yw, ym, yt, yA, yn, yc, yW, yB, yk, yd, yT⟩, by rw [HF.out]; rfl, by rw [HF.out]; exact HST.out, ?_, HLY.out, below_set5 HB4.out (Nat.le_refl _) _ _ _ _ _⟩
      exact ((((HNI.out.set_ hA.out hB.out _ _).set_ hA.out hB.out _ _).set_ hA.out hB.out _ _).set_ hA.out hB.out _ _).set_ hA.out hB.out _ _

theorem dropG_no (L : List Sl) (w : Int) (t : List Int) (h : hasB L w = false) : dropG L (w :: t) = none := by
  show (if hasB L w = true then _ else none) = _; rw [if_neg (by rw [h]; decide)]
theorem dropG_yes (L : List Sl) (w : Int) (t : List Int) (h : hasB L w = true) : dropG L (w :: t) = dropG (delS L w) t := by
  show (if hasB L w = true then _ else none) = _; rw [if_pos h]
theorem mem_del {L : List RawS} {p : Nat} {z : RawS} (h : z ∈ L.take p ++ L.drop (p + 1)) : z ∈ L := by
  rcases List.mem_append.1 h with h | h
  · exact List.mem_of_mem_take h
  · exact List.mem_of_mem_drop h
theorem off_row {v v' : Value} {L : List RawS} (h : Off v L) (e : v'.ownBlock = v.ownBlock) : Off v' L := fun x hx => ⟨fun b off he hn => by rw [e]; exact (h x hx).1 b off he hn, fun b off he hn => by rw [e]; exact (h x hx).2 b off he hn⟩
set_option maxRecDepth 100000 in
set_option maxHeartbeats 4000000 in
theorem drop_c (L : List RawS) (ws : List Int) (A D : Option Addr) (n c m d : Nat) (w : World) (r : List Sl × Int) (hr : Sls w A n L) (hn : n ≤ 1000000) (hl : Lim L) (hw : Rd w 1 D m (zs ws)) (hm : m ≤ 1000000) (ha : dropS (cc L) ws = r) :
    Calls Try.prog 20 #[.slice A n c, .slice D m d] w (RetP w r) := by
  have HR := Lib.hid hr
  have HLim := Lib.hid hl
  have HLen := Lib.hid hr.len
  have HWL := Lib.hid (zs_len hw)
  have HW := Lib.hid hw
  have HA := Lib.hid ha
  clear hr hl hw ha
  -- what comes back with an error
  have back : Hid (∀ (w2 : World) (f : Int), Below w.heap.size w w2 → r = (cc L, f) → ∀ (e : Ending) (w3 : World), RetOP 36 w2 n (cc L) e w3 → ∃ B k, e = .returned (.slice B n k) ∧ RetP w r (.returned (.tuple #[.slice B n k, .int .i64 f])) w3) := Lib.hid (by
    rintro w2 f hb hf e w3 ⟨v, L1, rfl, o1, o2, o3, o4, -⟩
    obtain ⟨B, k, rfl, hrd⟩ := o1.form
    exact ⟨B, k, rfl, B, n, k, L1, by rw [hf], ⟨hrd, o3⟩, by rw [o2, hf], o4, bl_trans hb o1.2⟩)
  obtain ⟨b1, h1⟩ : ∃ b, rightB (cc L) = b := ⟨_, rfl⟩
  have H1 := Lib.hid h1
  have HRC := Lib.hid (right_c L A n c w b1 HR.out hn HLim.out h1)
  clear h1
  go_enter Try.func20, Try.ntmps20
  go_wp2_with fail
  refine HRC.out.mono ?_
  rintro e w1 ⟨rfl, b2⟩
  have HB1 := Lib.hid b2
  clear b2 HRC
  cases b1
  · have HF : Hid (r = (cc L, 1)) := Lib.hid (by rw [← HA.out]; unfold dropS; rw [H1.out]; rfl)
    have HCL := Lib.hid (clone_p L A n c w1 (HR.out.below HB1.out) hn HLim.out)
    go_wp2_with fail
    refine HCL.out.mono ?_
    intro e w2 he
    obtain ⟨B, k, rfl, hP⟩ := back.out w1 1 HB1.out HF.out e w2 he
    have HP := Lib.hid hP
    clear he hP
    go_wp2
    go_ret2
    exact HP.out
  · have HFS : Hid (∀ R, dropG (cc L) ws = some R → r = (R, 0)) := Lib.hid (fun R hR => by rw [← HA.out]; unfold dropS; rw [if_pos H1.out, hR])
    have HFN : Hid (dropG (cc L) ws = none → r = (cc L, 3)) := Lib.hid (fun hR => by rw [← HA.out]; unfold dropS; rw [if_pos H1.out, hR])
    have HCL := Lib.hid (clone_p L A n c w1 (HR.out.below HB1.out) hn HLim.out)
    go_wp2_with fail
    refine HCL.out.mono ?_
    rintro e w2 ⟨v1, L1, rfl, o1, o2, o3, o4, o5⟩
    have HO := Lib.hid o1
    have HCC := Lib.hid o2
    have HI := Lib.hid o3
    have HLL := Lib.hid o4
    have HOFF := Lib.hid o5
    clear o1 o2 o3 o4 o5 HCL
    go_wp2
    go_loopw [6, 20] (fun v i wr => ∃ (k q : Nat), k ≤ m ∧ q ≤ n ∧ i = .int .i64 k ∧ Hid (∃ L' : List RawS, Own w1 wr 36 5 v q (ss L') ∧ Inners wr L' ∧ Lim L' ∧ Off v L' ∧ rightB (cc L') = true ∧ dropG (cc L') (ws.drop k) = dropG (cc L) ws)) (fun _ i _ => m - (intOf i).toNat)
    case atStart => exact ⟨0, n, Nat.zero_le _, Nat.le_refl _, rfl, Lib.hid ⟨L1, HO.out, HI.out, HLL.out, HOFF.out, by rw [HCC.out]; exact H1.out, by rw [HCC.out]; rfl⟩⟩
    case round =>
      obtain ⟨k, q, hk, hq, rfl, HINV⟩ := hrel
      generalize wr = w3 at *
      obtain ⟨L', i1, i2, i3, i4, i5, i6⟩ := HINV.out
      have HBW : Hid (Below w.heap.size w w3) := Lib.hid (bl_trans HB1.out i1.2)
      obtain ⟨B, cp, rfl, hrd⟩ := i1.form
      have HL' : Hid (L'.length = q) := Lib.hid (Rd.len sc_len hrd (by decide))
      have HSL : Hid (Sls w3 B q L') := Lib.hid ⟨hrd, i2⟩
      have I1 := Lib.hid i1
      have I2 := Lib.hid i2
      have I3 := Lib.hid i3
      have I4 := Lib.hid i4
      have I5 := Lib.hid i5
      have I6 := Lib.hid i6
      clear i1 i2 i3 i4 i5 i6 HINV hrd
      by_cases hlt : k < m
      · obtain ⟨b5, off, z, rfl, hx, c0⟩ := at_z (HW.out.below HBW.out) k hlt
        have HD : Hid (ws.drop k = z :: ws.drop (k + 1)) := Lib.hid (by
          obtain ⟨h7, h8⟩ := List.getElem?_eq_some_iff.1 hx
          rw [List.drop_eq_getElem_cons h7, h8])
        obtain ⟨f, hf⟩ : ∃ f, hasB (cc L') z = f := ⟨_, rfl⟩
        have HF0 := Lib.hid hf
        have HFC := Lib.hid (find_c L' B q cp z w3 f HSL.out (by omega) I5.out hf)
        clear hx hf
        go_wp2_with fail
        refine HFC.out.mono ?_
        rintro e w4 ⟨p, rfl, hp, b4⟩
        have HB4 := Lib.hid (bl_trans HBW.out b4)
        have I14 := Lib.hid (I1.out.below b4)
        have HB34 := Lib.hid b4
        have HP := Lib.hid hp
        clear b4 hp HFC c0
        cases f
        · have HF3 : Hid (r = (cc L, 3)) := Lib.hid (HFN.out (by rw [← I6.out, HD.out, dropG_no _ _ _ HF0.out]))
          have HCL := Lib.hid (clone_p L A n c w4 (HR.out.below HB4.out) hn HLim.out)
          go_wp2_with fail
          refine HCL.out.mono ?_
          intro e w5 he
          obtain ⟨B5, k5, rfl, hP⟩ := back.out w4 3 HB4.out HF3.out e w5 he
          have HP5 := Lib.hid hP
          clear he hP
          go_wp2
          go_ret2
          exact HP5.out
        · have hpq : p < q := by
            obtain ⟨s, hs, -, -⟩ := found_find _ _ _ HP.out
            have := (List.getElem?_eq_some_iff.1 hs).1
            rw [cc_len, HL'.out] at this; exact this
          obtain ⟨g, cap, hv⟩ := own_lay I14.out (by omega)
          injection hv with hv1 hv2 hv3
          subst hv1 hv3
          have hw1 : IntKind.i64.wrap ((p : Int) + 1) = (p : Int) + 1 := by rw [IntKind.wrap_i64]; omega
          have HDEL := Lib.hid (delete_c w1 w4 g q cp p L' (p : Int) ((p : Int) + 1) I14.out (by omega) hpq rfl rfl)
          have HDS := Lib.hid (found_del (cc L') z p I5.out HP.out)
          clear hv2
          go_wp2_with fail
          refine HDEL.out.mono ?_
          rintro e w5 ⟨rfl, o5, g5⟩
          have HO5 := Lib.hid o5
          have HG5 := Lib.hid g5
          clear o5 g5 HDEL
          have HCD : Hid (cc (L'.take p ++ L'.drop (p + 1)) = delS (cc L') z) := Lib.hid (by rw [HDS.out, cc_app, cc_take, cc_drop])
          go_wp2
          go_roundw
          case rel =>
            refine ⟨k + 1, q - 1, by omega, by omega, by go_num, Lib.hid ⟨L'.take p ++ L'.drop (p + 1), HO5.out, ?_, fun z hz => I3.out z (mem_del hz), ?_, ?_, ?_⟩⟩
            · exact Inners.grown (v := .slice (some ⟨g, 0, none⟩) q cp) (fun z hz => (I2.out z (mem_del hz)).below HB34.out) (fun z hz => I4.out z (mem_del hz)) HG5.out
            · exact off_row (v := .slice (some ⟨g, 0, none⟩) q cp) (fun z hz => I4.out z (mem_del hz)) rfl
            · rw [HCD.out]; exact del_right _ _ I5.out
            · rw [HCD.out, ← dropG_yes _ _ _ HF0.out, ← HD.out]; exact I6.out
          case measure => simp [intOf]; omega
      · have HF4 : Hid (r = (cc L', 0)) := Lib.hid (HFS.out _ (by
          rw [← I6.out, List.drop_of_length_le (by rw [HWL.out]; omega)]; rfl))
        go_wp2
        go_ret2
        exact ⟨B, q, cp, L', by rw [HF4.out]; rfl, HSL.out, by rw [HF4.out], I3.out, HBW.out⟩
end Go.Proofs.Ytddgdhaioomnnaa.Sleep
