/-
  THE WALK OF THE LAW HeapParts, over what the layer's functions are said to do.
-/
import Derived.Test.YtpejbfphejijeaaHeapLaw
namespace Go.Proofs.Ytpejbfphejijeaa.Heap
open Go.ChangeShapes Go.WideShapes Go.ChangeAt Go.RowKit Mem

theorem tWrite : SliceT Try.prog 23 51 2 16 := SliceT.mk_ (z := .agg #[.int .i64 0, .int .i64 0]) Try.underlying23 (by kernel_rfl) rfl (by decide)
theorem ws_app (a b : List Write) : ws (a ++ b) = ws a ++ ws b := by unfold ws; rw [List.flatMap_append]
theorem ws_one (l : List Write) : ∀ u ∈ ws l, u.oneCell' = true := by
  intro u hu
  unfold ws at hu
  obtain ⟨x, _, hx⟩ := List.mem_flatMap.1 hu
  exact one_cons rfl (one_cons rfl one_nil) u hx

/-- Writes in two parts are writes in one. -/
theorem parts (h : List Cell) (a b : List Write) (hr : rightB h = true) :
    ∃ e f g x y z, putS h (a ++ b) = (z, e) ∧ putS h a = (x, f) ∧ putS x b = (y, g) ∧ ((e == 0) = ((f == 0) && (g == 0))) ∧ ((e == 0) = true → z = y) := by
  rcases put_cases h a hr with ⟨va, la, pa⟩ | ⟨f, hf, pa, na⟩
  · have hr' := putAll_right h a hr va
    rcases put_cases (putAll h a) b hr' with ⟨vb, lb, pb⟩ | ⟨g, hg, pb, nb⟩
    · refine ⟨0, 0, 0, _, _, putAll (putAll h a) b, ?_, pa, pb, rfl, fun _ => rfl⟩
      have lb' : b.all (fun w => liveAt h w.cell) = true := by
        rw [List.all_eq_true] at lb ⊢; intro y hy; rw [← putAll_live h a la]; exact lb y hy
      unfold putS; rw [hr, List.all_append, List.all_append, va, vb, la, lb', putAll_append]; rfl
    · have : ∃ e, e ≠ 0 ∧ putS h (a ++ b) = (h, e) := by
        rcases put_cases h (a ++ b) hr with ⟨v, l, _⟩ | ⟨e, he, p, _⟩
        · exfalso; apply nb
          rw [List.all_append, Bool.and_eq_true] at v l
          refine ⟨v.2, ?_⟩
          have l2 := l.2
          rw [List.all_eq_true] at l2 ⊢; intro y hy; rw [putAll_live h a la]; exact l2 y hy
        · exact ⟨e, he, p⟩
      obtain ⟨e, he, p⟩ := this
      refine ⟨e, 0, g, _, _, _, p, pa, pb, ?_, ?_⟩
      · rw [beq_eq_false_iff_ne.2 he, beq_eq_false_iff_ne.2 hg]; rfl
      · rw [beq_eq_false_iff_ne.2 he]; intro h; cases h
  · have : ∃ e, e ≠ 0 ∧ putS h (a ++ b) = (h, e) := by
      rcases put_cases h (a ++ b) hr with ⟨v, l, _⟩ | ⟨e, he, p, _⟩
      · exfalso; apply na
        rw [List.all_append, Bool.and_eq_true] at v l
        exact ⟨v.1, l.1⟩
      · exact ⟨e, he, p⟩
    obtain ⟨e, he, p⟩ := this
    refine ⟨e, f, (putS h b).2, _, (putS h b).1, _, p, pa, rfl, ?_, ?_⟩
    · rw [beq_eq_false_iff_ne.2 he, beq_eq_false_iff_ne.2 hf]; rfl
    · rw [beq_eq_false_iff_ne.2 he]; intro h; cases h

set_option maxRecDepth 100000 in
theorem parts_walk (S : Said) (A0 : Option Addr) (n0 c0 : Nat) (x0 : List Cell) (A1 : Option Addr) (n1 c1 : Nat) (x1 : List Write) (A2 : Option Addr) (n2 c2 : Nat) (x2 : List Write) (w : World)
    (m0 : n0 ≤ 9223372036854775807) (r0 : Rd w 2 A0 n0 (cs x0)) (m1 : n1 ≤ 9223372036854775807) (r1 : Rd w 2 A1 n1 (ws x1)) (m2 : n2 ≤ 9223372036854775807) (r2 : Rd w 2 A2 n2 (ws x2)) :
    Calls Try.prog 8 #[.slice A0 n0 c0, .slice A1 n1 c1, .slice A2 n2 c2] w (RetB w true) := by
  have HS := Lib.hid S
  have HL : Hid (x0.length = n0) := Lib.hid (by have := r0.1; rw [cs_len] at this; omega)
  clear S
  by_cases g : n0 ≤ 64 ∧ n1 ≤ 30 ∧ n2 ≤ 30
  · obtain ⟨g0, g1, g2⟩ := g
    have d64 : decide ((64 : Int) < (n0 : Int)) = false := by simp; omega
    have d30 : decide ((30 : Int) < (n1 : Int)) = false := by simp; omega
    have d31 : decide ((30 : Int) < (n2 : Int)) = false := by simp; omega
    by_cases hr : rightB x0 = true
    · have HR := Lib.hid hr
      obtain ⟨e, f, gg, x, y, z, pe, pf, pg, heq, hzy⟩ := parts x0 x1 x2 hr
      have PE := Lib.hid pe
      have PF := Lib.hid pf
      have PG := Lib.hid pg
      have HE := Lib.hid heq
      have HZ := Lib.hid hzy
      clear hr pe pf pg heq hzy
      go_enter Try.func8, Try.ntmps8
      go_wp2_with fail
      refine (HS.out.right _ _ _ _ _ _ r0 (by omega) HR.out).mono ?_
      rintro e' w1 ⟨rfl, b1⟩
      replace r0 := r0.below b1
      replace r1 := r1.below b1
      replace r2 := r2.below b1
      go_wp2_with (first
        | (at_builtin; refine append_rd rfl (.tmp 39) (.tmp 40) 23 rfl tWrite w1 _ _ _ rfl (Own.empty w1 _ _) A1 n1 c1 (ws x1) rfl (r1.alloc _) (ws_one x1) (by omega) (by omega) ?_; intro v1 w2 o1 hg1)
        | (at_builtin; refine append_rd rfl (.tmp 41) (.tmp 42) 23 rfl tWrite w1 v1 _ _ rfl o1 A2 n2 c2 (ws x2) rfl (r2.below o1.2) (ws_one x2) (by omega) (by omega) ?_; intro v2 w3 o2 hg2))
      obtain ⟨B2, d2, rfl, q2⟩ := o2.form
      replace r0 := r0.below o2.2
      replace r1 := r1.below o2.2
      replace b1 := bl_trans b1 o2.2
      have q2' : Rd w3 2 B2 (0 + n1 + n2) (ws (x1 ++ x2)) := by rw [ws_app]; exact q2
      have r2' : Rd w3 2 A2 n2 (ws x2) := r2.below o2.2
      clear r2 q2 o2 hg2 hg1 o1
      refine (HS.out.put _ _ _ _ _ _ _ _ _ _ r0 q2' (by omega) (by omega) PE.out).mono ?_
      rintro e' w4 ⟨B4, d4, rfl, s4, b4⟩
      replace r0 := r0.below b4
      replace r1 := r1.below b4
      replace r2' := r2'.below b4
      replace b1 := bl_trans b1 b4
      clear b4 q2'
      go_wp2_with fail
      refine (HS.out.put _ _ _ _ _ _ _ _ _ _ r0 r1 (by omega) (by omega) PF.out).mono ?_
      rintro e' w5 ⟨B5, d5, rfl, s5, b4⟩
      replace r0 := r0.below b4
      replace r2' := r2'.below b4
      replace s4 := s4.below b4
      replace b1 := bl_trans b1 b4
      clear b4 r1
      go_wp2_with fail
      refine (HS.out.put _ _ _ _ _ _ _ _ _ _ s5 r2' (by omega) (by omega) PG.out).mono ?_
      rintro e' w6 ⟨B6, d6, rfl, s6, b4⟩
      replace r0 := r0.below b4
      replace s4 := s4.below b4
      replace b1 := bl_trans b1 b4
      clear b4 r2' s5
      generalize hm : (liveS x0).length = m
      have HM := Lib.hid hm
      clear hm
      have hmn : m ≤ n0 := by
        rw [← HM.out, live_all _ HR.out, ← HL.out]; exact cnt_le _ _
      by_cases he : (e == 0) = true
      · have hzy := HZ.out he
        have hfg := HE.out
        rw [he] at hfg
        obtain ⟨hf, hg⟩ := Bool.and_eq_true_iff.1 hfg.symm
        have he' := eq_of_beq he
        have hf' := eq_of_beq hf
        have hg' := eq_of_beq hg
        subst hzy he' hf' hg'
        clear he hf hg hfg
        go_wp2_with fail
        refine (same_b _ _ _ _ _ _ _ _ _ true s4 s6 (by omega) (by omega) (by simp)).mono ?_
        rintro e' w7 ⟨rfl, b4⟩
        replace r0 := r0.below b4
        replace b1 := bl_trans b1 b4
        clear b4 s4 s6
        go_wp2_with fail
        refine (HS.out.live _ _ _ _ _ _ m r0 (by omega) rfl HM.out).mono ?_
        rintro e' w8 ⟨B8, d8, rfl, q8, b8⟩
        replace r0 := r0.below b8
        replace b1 := bl_trans b1 b8
        clear b8
        go_wp2
        go_loopw [13, 81] (fun v i wr => ∃ j : Nat, j ≤ m ∧ i = .int .i64 j ∧ Own w8 wr 51 2 v j (ws (((liveS x0).map (own_ x0)).take j))) (fun _ i _ => m - (intOf i).toNat)
        case atStart => exact ⟨0, Nat.zero_le _, rfl, Own.nil_ (Below.refl _ _)⟩
        case round =>
          obtain ⟨j, hj, rfl, hown⟩ := hrel
          by_cases hlt : j < m
          · have hjl : j < (liveS x0).length := by rw [HM.out]; exact hlt
            have hN := List.getElem?_eq_getElem hjl
            have hin : (liveS x0)[j] ∈ liveS x0 := List.getElem_mem hjl
            have HNX : Hid (((liveS x0).map (own_ x0))[j]? = some (own_ x0 (liveS x0)[j])) := Lib.hid (by rw [List.getElem?_map, hN]; rfl)
            generalize (liveS x0)[j] = i at *
            obtain ⟨_, hi, hli⟩ := liveS_mem x0 i hin
            have hin0 : i < n0 := by rw [← HL.out]; exact hi
            obtain ⟨_, lb, loff, rfl, lc⟩ := at_int (q8.below hown.2) j i hN
            obtain ⟨b, off, ⟨lv, vl⟩, rfl, hx, c1, c2⟩ := at_cell (r0.below hown.2) i hin0
            have hva := val_at x0 i _ hx
            simp only at hva
            have HT : Hid (ws (((liveS x0).map (own_ x0)).take (j + 1)) = ws (((liveS x0).map (own_ x0)).take j) ++ [.int .i64 (i : Int), .int .i64 vl]) := Lib.hid (by
              rw [List.take_add_one, HNX.out, ws_app]; simp [ws, wc, own_, hva])
            clear hN hin hi hli hx hva
            go_wp2_with (at_builtin; refine append_rd rfl (.tmp 85) (.tmp 93) 23 rfl tWrite w8 _ _ _ rfl (hown.alloc _) _ 1 1 [.int .i64 (i : Int), .int .i64 vl] rfl (Rd.built _ 2 1 [.int .i64 (i : Int), .int .i64 vl] _ rfl) (one_cons rfl (one_cons rfl one_nil)) (by omega) (by omega) ?_; intro v' w' hown' hg'; clear hg')
            go_roundw
            case rel => exact ⟨j + 1, by omega, by go_num, by rw [HT.out]; exact hown'⟩
            case measure => simp [intOf]; omega
          · have hjm : j = m := by omega
            subst hjm
            obtain ⟨B9, d9, rfl, q9⟩ := hown.form
            have q9' : Rd wr 2 B9 j (ws ((liveS x0).map (own_ x0))) := by
              rwa [List.take_of_length_le (by rw [List.length_map, HM.out]; exact Nat.le_refl _)] at q9
            have r9 := r0.below hown.2
            have b9 := bl_trans b1 hown.2
            clear q9 hown
            go_wp2_with fail
            refine (HS.out.put _ _ _ _ _ _ _ _ _ _ r9 q9' (by omega) (by omega) (put_own x0 HR.out)).mono ?_
            rintro e' w10 ⟨B10, d10, rfl, s10, b10⟩
            replace r9 := r9.below b10
            replace b9 := bl_trans b9 b10
            go_wp2_with fail
            refine (same_b _ _ _ _ _ _ _ _ _ true s10 r9 (by omega) (by omega) (by simp)).mono ?_
            rintro e' w11 ⟨rfl, b11⟩
            replace b9 := bl_trans b9 b11
            go_wp2_with fail
            refine (awake_any HS.out _).mono ?_
            rintro e' w12 ⟨rfl, b12⟩
            replace b9 := bl_trans b9 b12
            go_wp2_with fail
            go_ret
            exact ⟨rfl, b9⟩
      · have he0 : (e == 0) = false := by simpa using he
        have hfg := HE.out
        rw [he0] at hfg
        clear he
        have hfg' : (f == 0) = false ∨ ((f == 0) = true ∧ (gg == 0) = false) := by
          cases h1 : (f == 0)
          · exact .inl rfl
          · cases h2 : (gg == 0)
            · exact .inr ⟨rfl, rfl⟩
            · rw [h1, h2] at hfg; cases hfg
        clear hfg
        rcases hfg' with h1 | ⟨h1, h2⟩
        · go_wp2_with fail
          refine (HS.out.live _ _ _ _ _ _ m r0 (by omega) rfl HM.out).mono ?_
          rintro e' w8 ⟨B8, d8, rfl, q8, b8⟩
          replace r0 := r0.below b8
          replace b1 := bl_trans b1 b8
          clear b8
          go_wp2
          go_loopw [13, 81] (fun v i wr => ∃ j : Nat, j ≤ m ∧ i = .int .i64 j ∧ Own w8 wr 51 2 v j (ws (((liveS x0).map (own_ x0)).take j))) (fun _ i _ => m - (intOf i).toNat)
          case atStart => exact ⟨0, Nat.zero_le _, rfl, Own.nil_ (Below.refl _ _)⟩
          case round =>
            obtain ⟨j, hj, rfl, hown⟩ := hrel
            by_cases hlt : j < m
            · have hjl : j < (liveS x0).length := by rw [HM.out]; exact hlt
              have hN := List.getElem?_eq_getElem hjl
              have hin : (liveS x0)[j] ∈ liveS x0 := List.getElem_mem hjl
              have HNX : Hid (((liveS x0).map (own_ x0))[j]? = some (own_ x0 (liveS x0)[j])) := Lib.hid (by rw [List.getElem?_map, hN]; rfl)
              generalize (liveS x0)[j] = i at *
              obtain ⟨_, hi, hli⟩ := liveS_mem x0 i hin
              have hin0 : i < n0 := by rw [← HL.out]; exact hi
              obtain ⟨_, lb, loff, rfl, lc⟩ := at_int (q8.below hown.2) j i hN
              obtain ⟨b, off, ⟨lv, vl⟩, rfl, hx, c1, c2⟩ := at_cell (r0.below hown.2) i hin0
              have hva := val_at x0 i _ hx
              simp only at hva
              have HT : Hid (ws (((liveS x0).map (own_ x0)).take (j + 1)) = ws (((liveS x0).map (own_ x0)).take j) ++ [.int .i64 (i : Int), .int .i64 vl]) := Lib.hid (by
                rw [List.take_add_one, HNX.out, ws_app]; simp [ws, wc, own_, hva])
              clear hN hin hi hli hx hva
              go_wp2_with (at_builtin; refine append_rd rfl (.tmp 85) (.tmp 93) 23 rfl tWrite w8 _ _ _ rfl (hown.alloc _) _ 1 1 [.int .i64 (i : Int), .int .i64 vl] rfl (Rd.built _ 2 1 [.int .i64 (i : Int), .int .i64 vl] _ rfl) (one_cons rfl (one_cons rfl one_nil)) (by omega) (by omega) ?_; intro v' w' hown' hg'; clear hg')
              go_roundw
              case rel => exact ⟨j + 1, by omega, by go_num, by rw [HT.out]; exact hown'⟩
              case measure => simp [intOf]; omega
            · have hjm : j = m := by omega
              subst hjm
              obtain ⟨B9, d9, rfl, q9⟩ := hown.form
              have q9' : Rd wr 2 B9 j (ws ((liveS x0).map (own_ x0))) := by
                rwa [List.take_of_length_le (by rw [List.length_map, HM.out]; exact Nat.le_refl _)] at q9
              have r9 := r0.below hown.2
              have b9 := bl_trans b1 hown.2
              clear q9 hown
              go_wp2_with fail
              refine (HS.out.put _ _ _ _ _ _ _ _ _ _ r9 q9' (by omega) (by omega) (put_own x0 HR.out)).mono ?_
              rintro e' w10 ⟨B10, d10, rfl, s10, b10⟩
              replace r9 := r9.below b10
              replace b9 := bl_trans b9 b10
              go_wp2_with fail
              refine (same_b _ _ _ _ _ _ _ _ _ true s10 r9 (by omega) (by omega) (by simp)).mono ?_
              rintro e' w11 ⟨rfl, b11⟩
              replace b9 := bl_trans b9 b11
              go_wp2_with fail
              refine (awake_any HS.out _).mono ?_
              rintro e' w12 ⟨rfl, b12⟩
              replace b9 := bl_trans b9 b12
              go_wp2_with fail
              go_ret
              exact ⟨rfl, b9⟩
        · go_wp2_with fail
          refine (HS.out.live _ _ _ _ _ _ m r0 (by omega) rfl HM.out).mono ?_
          rintro e' w8 ⟨B8, d8, rfl, q8, b8⟩
          replace r0 := r0.below b8
          replace b1 := bl_trans b1 b8
          clear b8
          go_wp2
          go_loopw [13, 81] (fun v i wr => ∃ j : Nat, j ≤ m ∧ i = .int .i64 j ∧ Own w8 wr 51 2 v j (ws (((liveS x0).map (own_ x0)).take j))) (fun _ i _ => m - (intOf i).toNat)
          case atStart => exact ⟨0, Nat.zero_le _, rfl, Own.nil_ (Below.refl _ _)⟩
          case round =>
            obtain ⟨j, hj, rfl, hown⟩ := hrel
            by_cases hlt : j < m
            · have hjl : j < (liveS x0).length := by rw [HM.out]; exact hlt
              have hN := List.getElem?_eq_getElem hjl
              have hin : (liveS x0)[j] ∈ liveS x0 := List.getElem_mem hjl
              have HNX : Hid (((liveS x0).map (own_ x0))[j]? = some (own_ x0 (liveS x0)[j])) := Lib.hid (by rw [List.getElem?_map, hN]; rfl)
              generalize (liveS x0)[j] = i at *
              obtain ⟨_, hi, hli⟩ := liveS_mem x0 i hin
              have hin0 : i < n0 := by rw [← HL.out]; exact hi
              obtain ⟨_, lb, loff, rfl, lc⟩ := at_int (q8.below hown.2) j i hN
              obtain ⟨b, off, ⟨lv, vl⟩, rfl, hx, c1, c2⟩ := at_cell (r0.below hown.2) i hin0
              have hva := val_at x0 i _ hx
              simp only at hva
              have HT : Hid (ws (((liveS x0).map (own_ x0)).take (j + 1)) = ws (((liveS x0).map (own_ x0)).take j) ++ [.int .i64 (i : Int), .int .i64 vl]) := Lib.hid (by
                rw [List.take_add_one, HNX.out, ws_app]; simp [ws, wc, own_, hva])
              clear hN hin hi hli hx hva
              go_wp2_with (at_builtin; refine append_rd rfl (.tmp 85) (.tmp 93) 23 rfl tWrite w8 _ _ _ rfl (hown.alloc _) _ 1 1 [.int .i64 (i : Int), .int .i64 vl] rfl (Rd.built _ 2 1 [.int .i64 (i : Int), .int .i64 vl] _ rfl) (one_cons rfl (one_cons rfl one_nil)) (by omega) (by omega) ?_; intro v' w' hown' hg'; clear hg')
              go_roundw
              case rel => exact ⟨j + 1, by omega, by go_num, by rw [HT.out]; exact hown'⟩
              case measure => simp [intOf]; omega
            · have hjm : j = m := by omega
              subst hjm
              obtain ⟨B9, d9, rfl, q9⟩ := hown.form
              have q9' : Rd wr 2 B9 j (ws ((liveS x0).map (own_ x0))) := by
                rwa [List.take_of_length_le (by rw [List.length_map, HM.out]; exact Nat.le_refl _)] at q9
              have r9 := r0.below hown.2
              have b9 := bl_trans b1 hown.2
              clear q9 hown
              go_wp2_with fail
              refine (HS.out.put _ _ _ _ _ _ _ _ _ _ r9 q9' (by omega) (by omega) (put_own x0 HR.out)).mono ?_
              rintro e' w10 ⟨B10, d10, rfl, s10, b10⟩
              replace r9 := r9.below b10
              replace b9 := bl_trans b9 b10
              go_wp2_with fail
              refine (same_b _ _ _ _ _ _ _ _ _ true s10 r9 (by omega) (by omega) (by simp)).mono ?_
              rintro e' w11 ⟨rfl, b11⟩
              replace b9 := bl_trans b9 b11
              go_wp2_with fail
              refine (awake_any HS.out _).mono ?_
              rintro e' w12 ⟨rfl, b12⟩
              replace b9 := bl_trans b9 b12
              go_wp2_with fail
              go_ret
              exact ⟨rfl, b9⟩
    · have hr' : rightB x0 = false := by simpa using hr
      have HR := Lib.hid hr'
      clear hr hr'
      go_enter Try.func8, Try.ntmps8
      go_wp2_with fail
      refine (HS.out.right _ _ _ _ _ _ r0 (by omega) HR.out).mono ?_
      rintro e w1 ⟨rfl, b1⟩
      go_wp2_with (go_at_call 9; refine (awake_any HS.out _).mono ?_; rintro e w2 ⟨rfl, b2⟩)
      go_ret
      exact ⟨rfl, bl_trans b1 (by assumption)⟩
  · have g' : 64 < n0 ∨ 30 < n1 ∨ 30 < n2 := by omega
    clear g
    go_enter Try.func8, Try.ntmps8
    go_wp2_with (go_at_call 9; refine (awake_any HS.out _).mono ?_; rintro e w2 ⟨rfl, b2⟩)
    all_goals
      go_ret
      exact ⟨rfl, by assumption⟩
end Go.Proofs.Ytpejbfphejijeaa.Heap
