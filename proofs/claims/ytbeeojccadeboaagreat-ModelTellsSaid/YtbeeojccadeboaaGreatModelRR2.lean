/-
  WHAT THE DOCUMENT'S ANSWER FOR LAYER 10 RETURNS: Run, of a code and a heap. No conditions beyond those that each theorem states.
-/
import Derived.Test.YtbeeojccadeboaaGreatModelRR
namespace Go.Proofs.YtbeeojccadeboaaGreat.Model
open Go.ChangeShapes Go.WideShapes Go.ChangeAt Go.RowKit Mem Go.Proofs.YtbeeojccadeboaaGreat.Code

set_option maxRecDepth 100000 in
set_option maxHeartbeats 3000000 in
theorem runr_yes (l : List Raw) (h : List Heap.Cell) (C HA : Option Addr) (n c hn hc : Nat) (w : World) (hat : At w C n l) (hlim : Lim l) (hnm : n ≤ 1000000) (hh : Rd w 2 HA hn (Heap.cs h)) (hhm : hn ≤ 1000000) (hck : checkS (ss l) = 0) (hri : Heap.rightB h = true) :
    Calls Tryz.prog 13 #[.slice C n c, .slice HA hn hc] w (RetYes w (part (ss l) (s0 h)) h) := by
  obtain ⟨S, hS⟩ : ∃ S, part (ss l) (s0 h) = S := ⟨_, rfl⟩
  have HSS := Lib.hid hS
  rw [hS]
  clear hS
  obtain ⟨PQ, hPQ⟩ : ∃ PQ, RetYes w S h = PQ := ⟨_, rfl⟩
  have HPQ := Lib.hid hPQ
  rw [hPQ]
  clear hPQ
  have HAT := Lib.hid hat
  have HH := Lib.hid hh
  have HLM := Lib.hid hlim
  have HV := Lib.hid hck
  obtain ⟨w1, hw1⟩ : ∃ w1, w1 = w.alloc (.cells #[.int .i64 0, .int .i64 0, .slice none 0 0, .slice none 0 0, .slice none 0 0, .slice none 0 0] 33) := ⟨_, rfl⟩
  have BB : Hid (Below w.heap.size w w1) := Lib.hid (by rw [hw1]; exact bl_alloc (Below.refl _ _) _)
  have KK : Hid (Blk w1 w.heap.size 33 #[.int .i64 0, .int .i64 0, .slice none 0 0, .slice none 0 0, .slice none 0 0, .slice none 0 0]) := Lib.hid (by rw [hw1]; exact Blk.new _ _ _)
  have HRC : Hid (Calls Tryz.prog 40 #[.slice HA hn hc] w1 fun e w' => e = .returned (.bool true) ∧ w1 = w') := Lib.hid (by rw [← hri]; exact Heap.right_any h HA hn hc w1 (hh.below BB.out) hhm)
  have HOLD : Hid (∀ b off, HA = some ⟨b, off, none⟩ → 0 < hn → b ≠ w.heap.size) := Lib.hid ((rd_old hh (by decide)).ne (Nat.le_refl _))
  obtain ⟨hc24, hall, hwell, _⟩ := check_ok _ hck
  have hlen := hat.len
  have hhl := Heap.right_len h hri
  have hhl2 : h.length = hn := by have h1 := hh.1; rw [Heap.cs_len] at h1; omega
  rw [ss_len] at hc24
  have HALL := Lib.hid hall
  have HWELL := Lib.hid hwell
  have hn24 : n ≤ 24 := by omega
  have hn64 : hn ≤ 64 := by omega
  obtain ⟨cr, hcr⟩ : ∃ cr, (sc (r0 HA hn hc h)).toArray = cr := ⟨_, rfl⟩
  have HBT : Hid (Array.setIfInBounds Tryz.zeroCells105 0 (.slice HA hn hc) = cr) := Lib.hid (by rw [← hcr]; kernel_rfl)
  obtain ⟨Z, hZ0⟩ : ∃ Z, (sc rz).toArray = Z := ⟨_, rfl⟩
  have HZ := Lib.hid zero_st
  have HZS : Hid (Z.size = 140) := Lib.hid (by rw [← hZ0, List.size_toArray, sc_len rfl])
  rw [hZ0] at HZ
  have HP : Hid (∀ W, Below w1.heap.size w1 W → Calls Tryz.prog 42 #[.slice C n c, .int .i64 0, .int .i64 (n : Int), .agg cr] W (RetSt W (r0 HA hn hc h) (part (ss l) (s0 h)))) := Lib.hid (fun W hW => by
    have hbw := bl_trans BB.out hW
    have := part_r n l C n c 0 n (r0 HA hn hc h) W ⟨HAT.out.below hbw, HALL.out, Nat.zero_le _, Nat.le_refl _, by omega, by omega, by rw [seg_full _ _ (by rw [ss_len]; exact hlen)]; exact HWELL.out, ⟨rfl, HH.out.below hbw, hn64, Rd.none_⟩, by show 0 + _ ≤ 1000; omega⟩ 0 n rfl rfl
    rw [seg_full _ _ (by rw [ss_len]; exact hlen), hcr] at this
    exact this)
  clear hat hh hlim hck hri hall hwell hcr hZ0
  go_enter Tryz.func13, Tryz.ntmps13
  go_wp2_with fail
  rw [← hw1]
  clear hw1
  refine HRC.out.mono ?_
  rintro e w1' ⟨rfl, rfl⟩
  go_wp2_with fail
  refine (Code.refcheck l C n c w1 0 (HAT.out.below BB.out) HLM.out hnm HV.out).mono ?_
  rintro e w2 ⟨rfl, b2⟩
  have B2 := Lib.hid b2
  clear b2
  go_wp2_with fail
  rw [HBT.out]
  refine (HP.out w2 B2.out).mono ?_
  rintro e w3 ⟨r, rfl, hs, st, b3, fa, fp⟩
  have B3 := Lib.hid (bl_trans (bl_trans BB.out B2.out) b3)
  have K3 := Lib.hid (KK.out.below (bl_trans B2.out b3))
  obtain ⟨ce, hce⟩ : ∃ ce, (sc r).toArray = ce := ⟨_, rfl⟩
  have HI9 : Hid ((Tryz.prog.info? 105).map (·.size) = some ce.size) := Lib.hid (by rw [← hce]; exact hi_st _ st.r8)
  have HSZ9 : Hid (Z.size = ce.size) := Lib.hid (by rw [HZS.out, ← hce, List.size_toArray, sc_len st.r8])
  have HON9 : Hid (ce.all (·.oneCell') = true) := Lib.hid (by rw [← hce]; exact one_st _)
  obtain ⟨w4, hw4⟩ : ∃ w4, w4 = w3.alloc (.cells Z 105) := ⟨_, rfl⟩
  have K4 : Hid (Blk w4 w3.heap.size 105 Z) := Lib.hid (by rw [hw4]; exact Blk.new _ _ _)
  have e4 : w4.heap.size = w3.heap.size + 1 := by rw [hw4]; simp
  have b4 : Below w3.heap.size w3 w4 := by rw [hw4]; exact bl_alloc (Below.refl _ _) _
  have HS : Hid (r.s = S) := Lib.hid (hs.trans HSS.out)
  have HST := Lib.hid st
  obtain ⟨w5, hw5⟩ : ∃ w5, w5 = w4.setRow w3.heap.size ce := ⟨_, rfl⟩
  have hs5 : Sb w5 w3.heap.size r := by unfold Sb; rw [hw5, ← hce]; exact setRow_blk K4.out
  have b5 : Below w3.heap.size w3 w5 := by rw [hw5]; exact setRow_below b4 (Nat.le_refl _) _
  have e5 : w5.heap.size = w3.heap.size + 1 := by rw [hw5, ← e4]; simp
  obtain ⟨k, hk⟩ : ∃ k, r.s.kind = k := ⟨_, rfl⟩
  obtain ⟨y, hy⟩ : ∃ y, r.s.why = y := ⟨_, rfl⟩
  have p5 : w5.cell? ⟨w3.heap.size, 138, none⟩ = some (.int .i64 k) := by rw [← hk]; exact hs5.cell_ 138 _ (sc_kind st.r8).1
  have p6 : w5.cell? ⟨w3.heap.size, 139, none⟩ = some (.int .i64 y) := by rw [← hy]; exact hs5.cell_ 139 _ (sc_kind st.r8).2
  obtain ⟨w7, hw7⟩ : ∃ w7, w7 = w5.alloc (.cells #[.int .i64 k, .int .i64 y, .slice none 0 0, .slice none 0 0, .slice none 0 0, .slice none 0 0] 33) := ⟨_, rfl⟩
  have K7 : Hid (Blk w7 (w3.heap.size + 1) 33 #[.int .i64 k, .int .i64 y, .slice none 0 0, .slice none 0 0, .slice none 0 0, .slice none 0 0]) := Lib.hid (by rw [hw7, ← e5]; exact Blk.new _ _ _)
  have S7 : Hid (Sb w7 w3.heap.size r) := Lib.hid (by rw [hw7]; exact Blk.alloc hs5 _)
  have B7 : Hid (Below w3.heap.size w3 w7) := Lib.hid (by rw [hw7]; exact bl_alloc b5 _)
  have G9 : w5.heap.size = w3.heap.size + 1 := e5
  have HFA := Lib.hid fa
  have HFP := Lib.hid fp
  have HB3 := Lib.hid b3
  rw [hce]
  clear hce hs5 b5 e5 b4 e4 hs st b3 fa fp
  go_wp2_with (first
    | (refine alloc_row rfl 105 rfl Z HZ.out ?_; rw [← hw4]; clear hw4)
    | (refine wpList_store_row rfl 105 _ _ rfl w3.heap.size ce rfl rfl 105 Z K4.out HI9.out HSZ9.out HON9.out ?_; rw [← hw5]; clear hw5))
  rw [← hw7]
  clear hw7 p5 p6 G9
  have SEEN : Hid (∀ W, Sb W w3.heap.size r → ∀ j, j < 64 → W.cell? ⟨w3.heap.size, 74 + j, none⟩ = some (.bool (r.s.seen j))) := Lib.hid (fun W hW j hj => hW.cell_ _ _ (sc_seen HST.out.r8 j hj))
  go_loopw [10] (fun i wr => ∃ (j m cc : Nat) (B : Option Addr), j ≤ 64 ∧ i = .int .i64 j ∧ Own w3 wr 3 1 (.slice B m cc) m (zs (pick r.s.seen j)) ∧ (Value.slice B m cc).ownBlock ≠ some w3.heap.size ∧ (Value.slice B m cc).ownBlock ≠ some (w3.heap.size + 1) ∧ Sb wr w3.heap.size r ∧ Blk wr (w3.heap.size + 1) 33 #[.int .i64 k, .int .i64 y, .slice none 0 0, .slice none 0 0, .slice B m cc, .slice none 0 0]) (fun i _ => 64 - (intOf i).toNat)
  case atStart => exact ⟨0, 0, 0, none, Nat.zero_le _, rfl, Own.nil_ B7.out, (fun e => by cases e), (fun e => by cases e), S7.out, K7.out⟩
  case round =>
    obtain ⟨j, m, cc, B, hj, rfl, ho, n8, n9, hs, hk9⟩ := hrel
    have HO := Lib.hid ho
    have N8 := Lib.hid n8
    have N9 := Lib.hid n9
    have SR := Lib.hid hs
    have KR := Lib.hid hk9
    clear ho n8 n9 hs hk9
    by_cases hlt : j < 64
    · have q := SEEN.out _ SR.out j hlt
      have hm := pick_len r.s.seen j
      have hm2 : m = (pick r.s.seen j).length := by have := HO.out.1.1; rw [zs_count] at this; omega
      cases hb : r.s.seen j with
      | false =>
        rw [hb] at q
        go_wp2
        go_roundw
        case rel => exact ⟨j + 1, m, cc, B, by omega, by go_num, by rw [pick_no _ _ hb]; exact HO.out, N8.out, N9.out, SR.out, KR.out⟩
        case measure => simp [intOf]; omega
      | true =>
        rw [hb] at q
        have q4 := KR.out.cell 4 _ rfl
        have hm64 : m ≤ 64 := by omega
        have HOA : Hid (Own w3 (wr.alloc (.cells #[.int .i64 (j : Int)] 3)) 3 1 (.slice B m cc) m (zs (pick r.s.seen j))) := Lib.hid (HO.out.alloc _)
        have HRA : Hid (Rd (wr.alloc (.cells #[.int .i64 (j : Int)] 3)) 1 (some ⟨wr.heap.size, 0, none⟩) 1 [.int .i64 (j : Int)]) := Lib.hid (Rd.built wr 1 1 [.int .i64 (j : Int)] _ rfl)
        have KA := Lib.hid (KR.out.alloc (.cells #[.int .i64 (j : Int)] 3))
        have SA : Hid (Sb (wr.alloc (.cells #[.int .i64 (j : Int)] 3)) w3.heap.size r) := Lib.hid (Blk.alloc SR.out _)
        have HPK : Hid (zs (pick r.s.seen (j + 1)) = zs (pick r.s.seen j) ++ [.int .i64 (j : Int)]) := Lib.hid (by rw [pick_yes _ _ hb]; unfold zs; rw [List.flatMap_append]; rfl)
        clear hm2 hm hb
        go_wp2_with (
          refine append_moved rfl _ _ 26 rfl Mem.tInt w3 (.slice B m cc) m (zs (pick r.s.seen j)) rfl HOA.out _ 1 1 [.int .i64 (j : Int)] rfl HRA.out (one_cons rfl one_nil) (by omega) (by omega) (by decide) ?_
          intro v8 w8 ho8 hm8
          obtain ⟨B8, c8, rfl, -⟩ := ho8.form
          have HO8 := Lib.hid ho8
          have HM8 := Lib.hid hm8
          have K8 := Lib.hid (hm8.blk KA.out N9.out)
          have S8 : Hid (Sb w8 w3.heap.size r) := Lib.hid (hm8.blk SA.out N8.out)
          have q8 := K8.out.cell 4 _ rfl
          have z8 := K8.out.frozen 4
          clear ho8 hm8)
        go_roundw
        case rel =>
          have hn9 : (Value.slice B8 (m + 1) c8).ownBlock ≠ some (w3.heap.size + 1) := HM8.out.ne KA.out.lt N9.out
          have hn8 : (Value.slice B8 (m + 1) c8).ownBlock ≠ some w3.heap.size := HM8.out.ne (Blk.lt SA.out) N8.out
          exact ⟨j + 1, m + 1, c8, B8, by omega, by go_num, by rw [HPK.out]; exact HO8.out.set_ne (by omega) hn9 4 _, hn8, hn9, Blk.beside S8.out (by omega) 4 _, K8.out.set_ 4 _⟩
        case measure => simp [intOf]; omega
    · have hj64 : j = 64 := by omega
      rw [hj64] at HO
      have HJ := Lib.hid hj64
      clear hj64
      have qk : wr.cell? ⟨w3.heap.size, 138, none⟩ = some (.int .i64 k) := by rw [← hk]; exact SR.out.cell_ 138 _ (sc_kind HST.out.r8).1
      by_cases hk1 : k = 1
      · subst hk1
        have HR8 := Lib.hid HST.out.r8
        obtain ⟨rg, hrg⟩ : ∃ rg, r.s.regs = rg := ⟨_, rfl⟩
        have hrl : rg.length = 8 := by rw [← hrg]; exact HR8.out
        have HRG := Lib.hid hrg
        have REGS : Hid (∀ W, Sb W w3.heap.size r → ∀ j x, rg[j]? = some x → W.cell? ⟨w3.heap.size, 65 + j, none⟩ = some (.int .i64 x)) := Lib.hid (fun W hW j x hx => hW.cell_ _ _ (sc_reg HR8.out j x (by rw [HRG.out]; exact hx)))
        clear hrg
        obtain ⟨mS, hmS⟩ : ∃ mS, m = mS := ⟨_, rfl⟩
        obtain ⟨cS, hcS⟩ : ∃ cS, cc = cS := ⟨_, rfl⟩
        obtain ⟨BS, hBS⟩ : ∃ BS, B = BS := ⟨_, rfl⟩
        rw [hmS, hcS, hBS] at HO N8 N9 KR
        clear hmS hcS hBS
        have HOS := HO
        have NS9 := N9
        go_wp2_with fail
        go_loopw [11] (fun i wr => ∃ (j m cc : Nat) (B : Option Addr), j ≤ 8 ∧ i = .int .i64 j ∧ Own w3 wr 3 1 (.slice B m cc) m (zs (rg.take j)) ∧ (Value.slice B m cc).ownBlock ≠ some w3.heap.size ∧ (Value.slice B m cc).ownBlock ≠ some (w3.heap.size + 1) ∧ Sb wr w3.heap.size r ∧ Blk wr (w3.heap.size + 1) 33 #[.int .i64 1, .int .i64 y, .slice B m cc, .slice none 0 0, .slice BS mS cS, .slice none 0 0] ∧ Own w3 wr 3 1 (.slice BS mS cS) mS (zs (pick r.s.seen 64)) ∧ Apart (.slice BS mS cS) (.slice B m cc)) (fun i _ => 8 - (intOf i).toNat)
        case atStart => exact ⟨0, 0, 0, none, Nat.zero_le _, rfl, Own.nil_ HO.out.2, (fun e => by cases e), (fun e => by cases e), SR.out, KR.out, HOS.out, (Apart.nil_ _).symm⟩
        case round =>
          clear SR KR HO HOS
          obtain ⟨j, m, cc, B, hj, rfl, ho, n8, n9, hs, hk9, hos, hap⟩ := hrel
          have HO := Lib.hid ho
          have N8 := Lib.hid n8
          have N9 := Lib.hid n9
          have SR := Lib.hid hs
          have KR := Lib.hid hk9
          have HOS := Lib.hid hos
          have HAP := Lib.hid hap
          clear ho n8 n9 hs hk9 hos hap
          by_cases hlt : j < 8
          · obtain ⟨x, hx⟩ : ∃ x, rg[j]? = some x := ⟨_, List.getElem?_eq_getElem (by omega)⟩
            have hm8 : m ≤ 8 := by have := HO.out.1.1; rw [zs_count, List.length_take] at this; omega
            have HZT := Lib.hid (zs_take rg j x hx)
            obtain ⟨W, hW⟩ : ∃ W, W = (wr.alloc (.cells #[.int .i64 x] 3)).drew := ⟨_, rfl⟩
            have OW : Hid (Own w3 W 3 1 (.slice B m cc) m (zs (rg.take j))) := Lib.hid (by rw [hW]; exact (HO.out.alloc _).drew)
            have OSW : Hid (Own w3 W 3 1 (.slice BS mS cS) mS (zs (pick r.s.seen 64))) := Lib.hid (by rw [hW]; exact (HOS.out.alloc _).drew)
            have RW : Hid (Rd W 1 (some ⟨wr.heap.size, 0, none⟩) 1 [.int .i64 x]) := Lib.hid (by rw [hW]; exact (Rd.built wr 1 1 [.int .i64 x] _ rfl).drew)
            have KW : Hid (Blk W (w3.heap.size + 1) 33 #[.int .i64 1, .int .i64 y, .slice B m cc, .slice none 0 0, .slice BS mS cS, .slice none 0 0]) := Lib.hid (by rw [hW]; exact KR.out.alloc _)
            have SW : Hid (Sb W w3.heap.size r) := Lib.hid (by rw [hW]; exact Blk.alloc SR.out _)
            have d2 : wr.drew.cell? ⟨w3.heap.size, 65 + j, none⟩ = some (.int .i64 x) := REGS.out _ SR.out j x hx
            have d12 : wr.drew.cell? ⟨w3.heap.size + 1, 2, none⟩ = some (.slice B m cc) := KR.out.cell 2 _ rfl
            have e2' := REGS.out W SW.out j x hx
            rw [hW] at e2'
            have e12' := KW.out.cell 2 _ rfl
            rw [hW] at e12'
            have HX := Lib.hid hx
            clear hx
            go_wp2_with fail
            refine wp_region_held_drew (S := (fun (W : World) => W.cell? ⟨w3.heap.size, 65 + j, none⟩ = some (.int .i64 x))) (by kernel_rfl) d2 (fun hHeld => ?_)
            refine wpAnyH_take (i := 0) (v := .pointer (some ⟨(w3.heap.size + 1), 2, none⟩)) rfl (by kernel_rfl) (by kernel_rfl) (by kernel_rfl) (fun _ _ _ h => h) (Or.inl ⟨by rfl, fun W hS => by go_simp⟩) hHeld ?_
            try simp only [Act.put]
            try simp only [List.setIfInBounds_toArray]
            try simp only [List.set_cons_succ]
            try simp only [List.set_cons_zero]
            refine wpAnyH_take (i := 2) (v := .int .i64 (j : Int)) rfl (by kernel_rfl) (by kernel_rfl) (by kernel_rfl) (fun _ _ _ h => h) (Or.inl ⟨by rfl, fun W hS => by go_simp⟩) hHeld ?_
            try simp only [Act.put]
            try simp only [List.setIfInBounds_toArray]
            try simp only [List.set_cons_succ]
            try simp only [List.set_cons_zero]
            refine wpAnyH_take (i := 3) (v := .pointer (some ⟨w3.heap.size, 65, none⟩)) rfl (by kernel_rfl) (by kernel_rfl) (by kernel_rfl) (fun _ _ _ h => h) (Or.inl ⟨by rfl, fun W hS => by go_simp⟩) hHeld ?_
            try simp only [Act.put]
            try simp only [List.setIfInBounds_toArray]
            try simp only [List.set_cons_succ]
            try simp only [List.set_cons_zero]
            refine wpAnyH_take (i := 4) (v := .pointer (some ⟨w3.heap.size, 65 + j, none⟩)) rfl (by kernel_rfl) (by kernel_rfl) (by kernel_rfl) (fun _ _ _ h => h) (Or.inl ⟨by rfl, fun W hS => by go_simp⟩) hHeld ?_
            try simp only [Act.put]
            try simp only [List.setIfInBounds_toArray]
            try simp only [List.set_cons_succ]
            try simp only [List.set_cons_zero]
            refine wpAnyH_take (i := 5) (v := .int .i64 x) rfl (by kernel_rfl) (by kernel_rfl) (by kernel_rfl) (fun _ _ _ h => h) (Or.inl ⟨by rfl, fun W hS => by have k2 := hS; go_simp⟩) hHeld ?_
            try simp only [Act.put]
            try simp only [List.setIfInBounds_toArray]
            try simp only [List.set_cons_succ]
            try simp only [List.set_cons_zero]
            refine wpAnyH_ready (rs := [1, 6]) (by kernel_rfl) (by simp) ?_
            refine AllReadyH.cons rfl (fun KK hK => ?_) (AllReadyH.cons rfl (fun KK hK => ?_) AllReadyH.nil)
            · go_simp
              refine hK.out _ _ d2 (fun hHeldN => ?_)
              try simp only [Act.put]
              try simp only [List.setIfInBounds_toArray]
              try simp only [List.set_cons_succ]
              try simp only [List.set_cons_zero]
              clear hK KK
              refine wpAnyH_ready (rs := [6]) (by kernel_rfl) (by simp) ?_
              refine AllReadyH.cons rfl (fun KK hK => ?_) AllReadyH.nil
              go_simp
              refine hK.out _ _ e2' (fun hHeldM => ?_)
              try simp only [Act.put]
              try simp only [List.setIfInBounds_toArray]
              try simp only [List.set_cons_succ]
              try simp only [List.set_cons_zero]
              clear hK KK
              refine wpAnyH_ready (rs := [7]) (by kernel_rfl) (by simp) ?_
              refine AllReadyH.cons rfl (fun KK hK => ?_) AllReadyH.nil
              refine append_moved_step (by rfl) _ _ 26 (by rfl) Mem.tInt w3 (.slice B m cc) m (zs (rg.take j)) (by rfl) (by rw [← hW]; exact OW.out) _ 1 1 [.int .i64 x] (by rfl) (by rw [← hW]; exact RW.out) (one_cons rfl one_nil) (by omega) (by omega) (by decide) ?_
              rw [← hW]
              intro v8 w8 ho8 hm8
              obtain ⟨B8, c8, rfl, -⟩ := ho8.form
              have HO8 := Lib.hid ho8
              have HM8 := Lib.hid hm8
              have K8 := Lib.hid (hm8.blk KW.out N9.out)
              have S8 : Hid (Sb w8 w3.heap.size r) := Lib.hid (hm8.blk SW.out N8.out)
              have f2 := REGS.out w8 S8.out j x HX.out
              have q8 := K8.out.cell 2 _ rfl
              have z8 := K8.out.frozen 2
              clear ho8 hm8
              refine hK.out _ _ f2 (fun hHeld7 => ?_)
              try simp only [Act.put]
              try simp only [List.setIfInBounds_toArray]
              try simp only [List.set_cons_succ]
              try simp only [List.set_cons_zero]
              clear hK KK
              refine wpAnyH_take (i := 8) (v := .pointer (some ⟨(w3.heap.size + 1), 2, none⟩)) rfl (by kernel_rfl) (by kernel_rfl) (by kernel_rfl) (fun _ _ _ h => h) (Or.inl ⟨by rfl, fun W hS => by go_simp⟩) hHeld7 ?_
              try simp only [Act.put]
              try simp only [List.setIfInBounds_toArray]
              try simp only [List.set_cons_succ]
              try simp only [List.set_cons_zero]
              refine wpAnyH_ready (rs := [9]) (by kernel_rfl) (by simp) ?_
              refine AllReadyH.cons rfl (fun KK hK => ?_) AllReadyH.nil
              go_simp
              refine hK.out _ _ (by rw [cell_set_ne (by simp)]; exact f2) (fun _ => ?_)
              clear hK KK
              refine wpAnyH_done (by kernel_rfl) ?_ _
              clear q8 z8 f2
              have hn9 : (Value.slice B8 (m + 1) c8).ownBlock ≠ some (w3.heap.size + 1) := HM8.out.ne KW.out.lt N9.out
              have hn8 : (Value.slice B8 (m + 1) c8).ownBlock ≠ some w3.heap.size := HM8.out.ne (Blk.lt SW.out) N8.out
              have a1 := HO8.out.set_ne (g := w3.heap.size + 1) (by omega) hn9 2 (.slice B8 (m + 1) c8)
              rw [← HZT.out] at a1
              have a2 := K8.out.set_ 2 (.slice B8 (m + 1) c8)
              have a3 : Sb (w8.setCell ⟨w3.heap.size + 1, 2, none⟩ (.slice B8 (m + 1) c8)) w3.heap.size r := Blk.beside S8.out (by omega) 2 _
              have nS : (Value.slice BS mS cS).ownBlock ≠ some (w3.heap.size + 1) := NS9.out
              have a4 := (HM8.out.own OSW.out HAP.out HO8.out.2).set_ne (g := w3.heap.size + 1) (by omega) nS 2 (.slice B8 (m + 1) c8)
              have a5 := apart_moved OSW.out HAP.out HM8.out
              generalize w8.setCell ⟨w3.heap.size + 1, 2, none⟩ (.slice B8 (m + 1) c8) = w9 at *
              have HREL : Hid (_ ∧ _ ∧ _ ∧ _ ∧ _) := Lib.hid ⟨a1, a2, a3, a4, a5⟩
              clear a1 a2 a3 a4 a5 e2' e12' d2 d12
              go_wp2_with fail
              go_roundw
              case rel => exact ⟨j + 1, m + 1, c8, B8, by omega, by go_num, HREL.out.1, hn8, hn9, HREL.out.2.2.1, HREL.out.2.1, HREL.out.2.2.2.1, HREL.out.2.2.2.2⟩
              case measure => simp [intOf]; omega
            · go_simp
              refine hK.out _ _ e2' (fun hHeldN => ?_)
              try simp only [Act.put]
              try simp only [List.setIfInBounds_toArray]
              try simp only [List.set_cons_succ]
              try simp only [List.set_cons_zero]
              clear hK KK
              refine wpAnyH_ready (rs := [1]) (by kernel_rfl) (by simp) ?_
              refine AllReadyH.cons rfl (fun KK hK => ?_) AllReadyH.nil
              go_simp
              refine hK.out _ _ e2' (fun hHeldM => ?_)
              try simp only [Act.put]
              try simp only [List.setIfInBounds_toArray]
              try simp only [List.set_cons_succ]
              try simp only [List.set_cons_zero]
              clear hK KK
              refine wpAnyH_ready (rs := [7]) (by kernel_rfl) (by simp) ?_
              refine AllReadyH.cons rfl (fun KK hK => ?_) AllReadyH.nil
              refine append_moved_step (by rfl) _ _ 26 (by rfl) Mem.tInt w3 (.slice B m cc) m (zs (rg.take j)) (by rfl) (by rw [← hW]; exact OW.out) _ 1 1 [.int .i64 x] (by rfl) (by rw [← hW]; exact RW.out) (one_cons rfl one_nil) (by omega) (by omega) (by decide) ?_
              rw [← hW]
              intro v8 w8 ho8 hm8
              obtain ⟨B8, c8, rfl, -⟩ := ho8.form
              have HO8 := Lib.hid ho8
              have HM8 := Lib.hid hm8
              have K8 := Lib.hid (hm8.blk KW.out N9.out)
              have S8 : Hid (Sb w8 w3.heap.size r) := Lib.hid (hm8.blk SW.out N8.out)
              have f2 := REGS.out w8 S8.out j x HX.out
              have q8 := K8.out.cell 2 _ rfl
              have z8 := K8.out.frozen 2
              clear ho8 hm8
              refine hK.out _ _ f2 (fun hHeld7 => ?_)
              try simp only [Act.put]
              try simp only [List.setIfInBounds_toArray]
              try simp only [List.set_cons_succ]
              try simp only [List.set_cons_zero]
              clear hK KK
              refine wpAnyH_take (i := 8) (v := .pointer (some ⟨(w3.heap.size + 1), 2, none⟩)) rfl (by kernel_rfl) (by kernel_rfl) (by kernel_rfl) (fun _ _ _ h => h) (Or.inl ⟨by rfl, fun W hS => by go_simp⟩) hHeld7 ?_
              try simp only [Act.put]
              try simp only [List.setIfInBounds_toArray]
              try simp only [List.set_cons_succ]
              try simp only [List.set_cons_zero]
              refine wpAnyH_ready (rs := [9]) (by kernel_rfl) (by simp) ?_
              refine AllReadyH.cons rfl (fun KK hK => ?_) AllReadyH.nil
              go_simp
              refine hK.out _ _ (by rw [cell_set_ne (by simp)]; exact f2) (fun _ => ?_)
              clear hK KK
              refine wpAnyH_done (by kernel_rfl) ?_ _
              clear q8 z8 f2
              have hn9 : (Value.slice B8 (m + 1) c8).ownBlock ≠ some (w3.heap.size + 1) := HM8.out.ne KW.out.lt N9.out
              have hn8 : (Value.slice B8 (m + 1) c8).ownBlock ≠ some w3.heap.size := HM8.out.ne (Blk.lt SW.out) N8.out
              have a1 := HO8.out.set_ne (g := w3.heap.size + 1) (by omega) hn9 2 (.slice B8 (m + 1) c8)
              rw [← HZT.out] at a1
              have a2 := K8.out.set_ 2 (.slice B8 (m + 1) c8)
              have a3 : Sb (w8.setCell ⟨w3.heap.size + 1, 2, none⟩ (.slice B8 (m + 1) c8)) w3.heap.size r := Blk.beside S8.out (by omega) 2 _
              have nS : (Value.slice BS mS cS).ownBlock ≠ some (w3.heap.size + 1) := NS9.out
              have a4 := (HM8.out.own OSW.out HAP.out HO8.out.2).set_ne (g := w3.heap.size + 1) (by omega) nS 2 (.slice B8 (m + 1) c8)
              have a5 := apart_moved OSW.out HAP.out HM8.out
              generalize w8.setCell ⟨w3.heap.size + 1, 2, none⟩ (.slice B8 (m + 1) c8) = w9 at *
              have HREL : Hid (_ ∧ _ ∧ _ ∧ _ ∧ _) := Lib.hid ⟨a1, a2, a3, a4, a5⟩
              clear a1 a2 a3 a4 a5 e2' e12' d2 d12
              go_wp2_with fail
              go_roundw
              case rel => exact ⟨j + 1, m + 1, c8, B8, by omega, by go_num, HREL.out.1, hn8, hn9, HREL.out.2.2.1, HREL.out.2.1, HREL.out.2.2.2.1, HREL.out.2.2.2.2⟩
              case measure => simp [intOf]; omega
          · have ej : rg.take j = rg := List.take_of_length_le (by omega)
            rw [ej] at HO
            clear ej
            obtain ⟨mR, hmR⟩ : ∃ mR, m = mR := ⟨_, rfl⟩
            obtain ⟨cR, hcR⟩ : ∃ cR, cc = cR := ⟨_, rfl⟩
            obtain ⟨BR, hBR⟩ : ∃ BR, B = BR := ⟨_, rfl⟩
            have HOR := HO
            have NR9 := N9
            rw [hmR, hcR, hBR] at HOR NR9 KR HAP
            clear hmR hcR hBR HO N8 N9
            obtain ⟨rA, hrA⟩ : ∃ v, r.A = v := ⟨_, rfl⟩
            obtain ⟨rn, hrn⟩ : ∃ v, r.n = v := ⟨_, rfl⟩
            obtain ⟨rcc, hrc⟩ : ∃ v, r.c = v := ⟨_, rfl⟩
            obtain ⟨rP, hrP⟩ : ∃ v, r.P = v := ⟨_, rfl⟩
            obtain ⟨rpn, hrpn⟩ : ∃ v, r.pn = v := ⟨_, rfl⟩
            obtain ⟨rpc, hrpc⟩ : ∃ v, r.pc = v := ⟨_, rfl⟩
            obtain ⟨rh, hrh⟩ : ∃ v, r.s.h = v := ⟨_, rfl⟩
            obtain ⟨rw_, hrw⟩ : ∃ v, r.s.wrote = v := ⟨_, rfl⟩
            have HEAPC : Hid (∀ W, Sb W w3.heap.size r → W.cell? ⟨w3.heap.size, 0, none⟩ = some (.slice rA rn rcc)) := Lib.hid (fun W hW => by rw [← hrA, ← hrn, ← hrc]; exact hW.cell_ _ _ sc_heap)
            have PATHC : Hid (∀ W, Sb W w3.heap.size r → W.cell? ⟨w3.heap.size, 73, none⟩ = some (.slice rP rpn rpc)) := Lib.hid (fun W hW => by rw [← hrP, ← hrpn, ← hrpc]; exact hW.cell_ _ _ (sc_path HR8.out))
            have WROTE : Hid (∀ W, Sb W w3.heap.size r → ∀ j, j < 64 → W.cell? ⟨w3.heap.size, 1 + j, none⟩ = some (.bool (rw_ j))) := Lib.hid (fun W hW j hj => by rw [← hrw]; exact hW.cell_ _ _ (sc_wrote j hj))
            have RHEAP : Hid (Rd w3 2 rA rn (Heap.cs rh)) := Lib.hid (by rw [← hrA, ← hrn, ← hrh]; exact HST.out.heap)
            have RPATH : Hid (Rd w3 1 rP rpn (zs r.s.path)) := Lib.hid (by rw [← hrP, ← hrpn]; exact HST.out.path)
            have RN64 : rn ≤ 64 := by rw [← hrn]; exact HST.out.n64
            have EQS : Hid (r.A = rA ∧ r.n = rn ∧ r.P = rP ∧ r.pn = rpn ∧ r.s.h = rh ∧ r.s.wrote = rw_) := Lib.hid ⟨hrA, hrn, hrP, hrpn, hrh, hrw⟩
            clear hrA hrn hrc hrP hrpn hrpc hrh hrw
            have q73 := PATHC.out _ SR.out
            have q3 := KR.out.cell 3 _ rfl
            have z3 := KR.out.frozen 3
            have SR2 : Hid (Sb (wr.setCell ⟨w3.heap.size + 1, 3, none⟩ (.slice rP rpn rpc)) w3.heap.size r) := Lib.hid (Blk.beside SR.out (by omega) 3 _)
            have KR2 := Lib.hid (KR.out.set_ 3 (.slice rP rpn rpc))
            have OR2 := Lib.hid (HOR.out.set_ne (g := w3.heap.size + 1) (by omega) NR9.out 3 (.slice rP rpn rpc))
            have OS2 := Lib.hid (HOS.out.set_ne (g := w3.heap.size + 1) (by omega) NS9.out 3 (.slice rP rpn rpc))
            go_wp2_with fail
            clear q73 q3 z3
            generalize wr.setCell ⟨w3.heap.size + 1, 3, none⟩ (.slice rP rpn rpc) = wp at *
            go_loopw [12] (fun i wr => ∃ (j m cc : Nat) (B : Option Addr), j ≤ rn ∧ i = .int .i64 j ∧ Own w3 wr 108 2 (.slice B m cc) m (Heap.ws (wl rh rw_ j)) ∧ (Value.slice B m cc).ownBlock ≠ some w3.heap.size ∧ (Value.slice B m cc).ownBlock ≠ some (w3.heap.size + 1) ∧ Sb wr w3.heap.size r ∧ Blk wr (w3.heap.size + 1) 33 #[.int .i64 1, .int .i64 y, .slice BR mR cR, .slice rP rpn rpc, .slice BS mS cS, .slice B m cc] ∧ Own w3 wr 3 1 (.slice BS mS cS) mS (zs (pick r.s.seen 64)) ∧ Apart (.slice BS mS cS) (.slice B m cc) ∧ Own w3 wr 3 1 (.slice BR mR cR) mR (zs rg) ∧ Apart (.slice BR mR cR) (.slice B m cc)) (fun i _ => rn - (intOf i).toNat)
            case atStart => exact ⟨0, 0, 0, none, Nat.zero_le _, rfl, Own.nil_ OR2.out.2, (fun e => by cases e), (fun e => by cases e), SR2.out, KR2.out, OS2.out, (Apart.nil_ _).symm, OR2.out, (Apart.nil_ _).symm⟩
            case round =>
              clear SR KR HOR HOS HAP SR2 KR2 OR2 OS2
              obtain ⟨j, m, cc, B, hj, rfl, ho, n8, n9, hs, hk9, hos, hap, hor, hapr⟩ := hrel
              have HO := Lib.hid ho
              have N8 := Lib.hid n8
              have N9 := Lib.hid n9
              have SR := Lib.hid hs
              have KR := Lib.hid hk9
              have HOS := Lib.hid hos
              have HAP := Lib.hid hap
              have HOR := Lib.hid hor
              have HAPR := Lib.hid hapr
              have q0 := HEAPC.out _ hs
              clear ho n8 n9 hs hk9 hos hap hor hapr
              by_cases hlt : j < rn
              · have hj64 : j < 64 := by omega
                have q1 := WROTE.out _ SR.out j hj64
                cases hb : rw_ j with
                | false =>
                  rw [hb] at q1
                  have HWN := Lib.hid (wl_no rh rw_ j hb)
                  clear hb
                  go_wp2_with fail
                  go_roundw
                  case rel => exact ⟨j + 1, m, cc, B, by omega, by go_num, by rw [HWN.out]; exact HO.out, N8.out, N9.out, SR.out, KR.out, HOS.out, HAP.out, HOR.out, HAPR.out⟩
                  case measure => simp [intOf]; omega
                | true =>
                  rw [hb] at q1
                  obtain ⟨b1, off, ⟨lv, vx⟩, eA, gx, -, c1⟩ := Heap.at_cell RHEAP.out j hlt
                  simp only at c1
                  have hm64 : m ≤ 64 := by have h1 := HO.out.1.1; rw [Heap.ws_len] at h1; have h2 := wl_len rh rw_ j; omega
                  have HZT := Lib.hid (writes_yes rh rw_ j hb ⟨lv, vx⟩ gx)
                  have HCELL : Hid (∀ W, Below w3.heap.size w3 W → W.cell? ⟨b1, off + j * 2 + 1, none⟩ = some (.int .i64 vx)) := Lib.hid (fun W hW => cell_kept_up c1 hW)
                  have HEAP2 : Hid (∀ W, Sb W w3.heap.size r → W.cell? ⟨w3.heap.size, 0, none⟩ = some (.slice (some ⟨b1, off, none⟩) rn rcc)) := Lib.hid (fun W hW => by rw [← eA]; exact HEAPC.out W hW)
                  have BLT : Hid (b1 < w3.heap.size) := Lib.hid (cell_lt c1)
                  rw [eA] at q0
                  clear hb gx c1 eA
                  obtain ⟨W, hW⟩ : ∃ W, W = (wr.alloc (.cells #[.int .i64 (j : Int), .int .i64 vx] 108)).drew := ⟨_, rfl⟩
                  have OW : Hid (Own w3 W 108 2 (.slice B m cc) m (Heap.ws (wl rh rw_ j))) := Lib.hid (by rw [hW]; exact (HO.out.alloc _).drew)
                  have OSW : Hid (Own w3 W 3 1 (.slice BS mS cS) mS (zs (pick r.s.seen 64))) := Lib.hid (by rw [hW]; exact (HOS.out.alloc _).drew)
                  have ORW : Hid (Own w3 W 3 1 (.slice BR mR cR) mR (zs rg)) := Lib.hid (by rw [hW]; exact (HOR.out.alloc _).drew)
                  have RW : Hid (Rd W 2 (some ⟨wr.heap.size, 0, none⟩) 1 [.int .i64 (j : Int), .int .i64 vx]) := Lib.hid (by rw [hW]; exact (Rd.built wr 2 1 [.int .i64 (j : Int), .int .i64 vx] _ rfl).drew)
                  have KW : Hid (Blk W (w3.heap.size + 1) 33 #[.int .i64 1, .int .i64 y, .slice BR mR cR, .slice rP rpn rpc, .slice BS mS cS, .slice B m cc]) := Lib.hid (by rw [hW]; exact KR.out.alloc _)
                  have SW : Hid (Sb W w3.heap.size r) := Lib.hid (by rw [hW]; exact Blk.alloc SR.out _)
                  have d2 : wr.drew.cell? ⟨w3.heap.size, 0, none⟩ = some (.slice (some ⟨b1, off, none⟩) rn rcc) := q0
                  have d3 : wr.drew.cell? ⟨b1, off + j * 2 + 1, none⟩ = some (.int .i64 vx) := HCELL.out wr HO.out.2
                  have d12 : wr.drew.cell? ⟨w3.heap.size + 1, 5, none⟩ = some (.slice B m cc) := KR.out.cell 5 _ rfl
                  have e2' := HEAP2.out W SW.out
                  rw [hW] at e2'
                  have e3' := HCELL.out W OW.out.2
                  rw [hW] at e3'
                  have e12' := KW.out.cell 5 _ rfl
                  rw [hW] at e12'
                  go_wp2_with fail
                  refine wp_region_held_drew (S := (fun (W : World) => W.cell? ⟨w3.heap.size, 0, none⟩ = some (.slice (some ⟨b1, off, none⟩) rn rcc) ∧ W.cell? ⟨b1, off + j * 2 + 1, none⟩ = some (.int .i64 vx))) (by kernel_rfl) ⟨d2, d3⟩ (fun hHeld => ?_)
                  refine wpAnyH_take (i := 0) (v := .pointer (some ⟨(w3.heap.size + 1), 5, none⟩)) rfl (by kernel_rfl) (by kernel_rfl) (by kernel_rfl) (fun _ _ _ h => h) (Or.inl ⟨by rfl, fun W hS => by go_simp⟩) hHeld ?_
                  try simp only [Act.put]
                  try simp only [List.setIfInBounds_toArray]
                  try simp only [List.set_cons_succ]
                  try simp only [List.set_cons_zero]
                  refine wpAnyH_take (i := 2) (v := .int .i64 (j : Int)) rfl (by kernel_rfl) (by kernel_rfl) (by kernel_rfl) (fun _ _ _ h => h) (Or.inl ⟨by rfl, fun W hS => by go_simp⟩) hHeld ?_
                  try simp only [Act.put]
                  try simp only [List.setIfInBounds_toArray]
                  try simp only [List.set_cons_succ]
                  try simp only [List.set_cons_zero]
                  refine wpAnyH_take (i := 3) (v := .pointer (some ⟨w3.heap.size, 0, none⟩)) rfl (by kernel_rfl) (by kernel_rfl) (by kernel_rfl) (fun _ _ _ h => h) (Or.inl ⟨by rfl, fun W hS => by go_simp⟩) hHeld ?_
                  try simp only [Act.put]
                  try simp only [List.setIfInBounds_toArray]
                  try simp only [List.set_cons_succ]
                  try simp only [List.set_cons_zero]
                  refine wpAnyH_take (i := 4) (v := .slice (some ⟨b1, off, none⟩) rn rcc) rfl (by kernel_rfl) (by kernel_rfl) (by kernel_rfl) (fun _ _ _ h => h) (Or.inl ⟨by rfl, fun W hS => by have k2 := hS.1; go_simp⟩) hHeld ?_
                  try simp only [Act.put]
                  try simp only [List.setIfInBounds_toArray]
                  try simp only [List.set_cons_succ]
                  try simp only [List.set_cons_zero]
                  refine wpAnyH_take (i := 5) (v := .int .i64 (j : Int)) rfl (by kernel_rfl) (by kernel_rfl) (by kernel_rfl) (fun _ _ _ h => h) (Or.inl ⟨by rfl, fun W hS => by go_simp⟩) hHeld ?_
                  try simp only [Act.put]
                  try simp only [List.setIfInBounds_toArray]
                  try simp only [List.set_cons_succ]
                  try simp only [List.set_cons_zero]
                  refine wpAnyH_take (i := 6) (v := .pointer (some ⟨b1, off + j * 2, none⟩)) rfl (by kernel_rfl) (by kernel_rfl) (by kernel_rfl) (fun _ _ _ h => h) (Or.inl ⟨by rfl, fun W hS => by go_simp⟩) hHeld ?_
                  try simp only [Act.put]
                  try simp only [List.setIfInBounds_toArray]
                  try simp only [List.set_cons_succ]
                  try simp only [List.set_cons_zero]
                  refine wpAnyH_take (i := 7) (v := .pointer (some ⟨b1, off + j * 2 + 1, none⟩)) rfl (by kernel_rfl) (by kernel_rfl) (by kernel_rfl) (fun _ _ _ h => h) (Or.inl ⟨by rfl, fun W hS => by go_simp⟩) hHeld ?_
                  try simp only [Act.put]
                  try simp only [List.setIfInBounds_toArray]
                  try simp only [List.set_cons_succ]
                  try simp only [List.set_cons_zero]
                  refine wpAnyH_take (i := 8) (v := .int .i64 vx) rfl (by kernel_rfl) (by kernel_rfl) (by kernel_rfl) (fun _ _ _ h => h) (Or.inl ⟨by rfl, fun W hS => by have k2 := hS.2; go_simp⟩) hHeld ?_
                  try simp only [Act.put]
                  try simp only [List.setIfInBounds_toArray]
                  try simp only [List.set_cons_succ]
                  try simp only [List.set_cons_zero]
                  refine wpAnyH_take (i := 9) (v := .agg #[.int .i64 (j : Int), .int .i64 vx]) rfl (by kernel_rfl) (by kernel_rfl) (by kernel_rfl) (fun _ _ _ h => h) (Or.inl ⟨by rfl, fun W hS => by go_simp⟩) hHeld ?_
                  try simp only [Act.put]
                  try simp only [List.setIfInBounds_toArray]
                  try simp only [List.set_cons_succ]
                  try simp only [List.set_cons_zero]
                  refine wpAnyH_ready (rs := [1, 10]) (by kernel_rfl) (by simp) ?_
                  refine AllReadyH.cons rfl (fun KK hK => ?_) (AllReadyH.cons rfl (fun KK hK => ?_) AllReadyH.nil)
                  · go_simp
                    refine hK.out _ _ ⟨d2, d3⟩ (fun hHeldN => ?_)
                    try simp only [Act.put]
                    try simp only [List.setIfInBounds_toArray]
                    try simp only [List.set_cons_succ]
                    try simp only [List.set_cons_zero]
                    clear hK KK
                    refine wpAnyH_ready (rs := [10]) (by kernel_rfl) (by simp) ?_
                    refine AllReadyH.cons rfl (fun KK hK => ?_) AllReadyH.nil
                    go_simp
                    refine hK.out _ _ ⟨e2', e3'⟩ (fun hHeldM => ?_)
                    try simp only [Act.put]
                    try simp only [List.setIfInBounds_toArray]
                    try simp only [List.set_cons_succ]
                    try simp only [List.set_cons_zero]
                    clear hK KK
                    refine wpAnyH_ready (rs := [11]) (by kernel_rfl) (by simp) ?_
                    refine AllReadyH.cons rfl (fun KK hK => ?_) AllReadyH.nil
                    refine append_moved_step (by rfl) _ _ 27 (by rfl) tWr w3 (.slice B m cc) m (Heap.ws (wl rh rw_ j)) (by rfl) (by rw [← hW]; exact OW.out) _ 1 1 [.int .i64 (j : Int), .int .i64 vx] (by rfl) (by rw [← hW]; exact RW.out) (one_cons rfl (one_cons rfl one_nil)) (by omega) (by omega) (by decide) ?_
                    rw [← hW]
                    intro v8 w8 ho8 hm8
                    obtain ⟨B8, c8, rfl, -⟩ := ho8.form
                    have HO8 := Lib.hid ho8
                    have HM8 := Lib.hid hm8
                    have K8 := Lib.hid (hm8.blk KW.out N9.out)
                    have S8 : Hid (Sb w8 w3.heap.size r) := Lib.hid (hm8.blk SW.out N8.out)
                    have f2 : _ ∧ _ := ⟨HEAP2.out w8 S8.out, HCELL.out w8 ho8.2⟩
                    have q8 := K8.out.cell 5 _ rfl
                    have z8 := K8.out.frozen 5
                    clear ho8 hm8
                    refine hK.out _ _ f2 (fun hHeld7 => ?_)
                    try simp only [Act.put]
                    try simp only [List.setIfInBounds_toArray]
                    try simp only [List.set_cons_succ]
                    try simp only [List.set_cons_zero]
                    clear hK KK
                    refine wpAnyH_take (i := 12) (v := .pointer (some ⟨(w3.heap.size + 1), 5, none⟩)) rfl (by kernel_rfl) (by kernel_rfl) (by kernel_rfl) (fun _ _ _ h => h) (Or.inl ⟨by rfl, fun W hS => by go_simp⟩) hHeld7 ?_
                    try simp only [Act.put]
                    try simp only [List.setIfInBounds_toArray]
                    try simp only [List.set_cons_succ]
                    try simp only [List.set_cons_zero]
                    refine wpAnyH_ready (rs := [13]) (by kernel_rfl) (by simp) ?_
                    refine AllReadyH.cons rfl (fun KK hK => ?_) AllReadyH.nil
                    go_simp
                    refine hK.out _ _ (by rw [cell_set_ne (by simp), cell_set_ne (by have := BLT.out; show w3.heap.size + 1 ≠ b1; omega)]; exact f2) (fun _ => ?_)
                    clear hK KK
                    refine wpAnyH_done (by kernel_rfl) ?_ _
                    clear q8 z8 f2
                    have hn9 : (Value.slice B8 (m + 1) c8).ownBlock ≠ some (w3.heap.size + 1) := HM8.out.ne KW.out.lt N9.out
                    have hn8 : (Value.slice B8 (m + 1) c8).ownBlock ≠ some w3.heap.size := HM8.out.ne (Blk.lt SW.out) N8.out
                    have a1 := HO8.out.set_ne (g := w3.heap.size + 1) (by omega) hn9 5 (.slice B8 (m + 1) c8)
                    rw [← HZT.out] at a1
                    have a2 := K8.out.set_ 5 (.slice B8 (m + 1) c8)
                    have a3 : Sb (w8.setCell ⟨w3.heap.size + 1, 5, none⟩ (.slice B8 (m + 1) c8)) w3.heap.size r := Blk.beside S8.out (by omega) 5 _
                    have nS : (Value.slice BS mS cS).ownBlock ≠ some (w3.heap.size + 1) := NS9.out
                    have a4 := (HM8.out.own OSW.out HAP.out HO8.out.2).set_ne (g := w3.heap.size + 1) (by omega) nS 5 (.slice B8 (m + 1) c8)
                    have a5 := apart_moved OSW.out HAP.out HM8.out
                    have a6 := (HM8.out.own ORW.out HAPR.out HO8.out.2).set_ne (g := w3.heap.size + 1) (by omega) NR9.out 5 (.slice B8 (m + 1) c8)
                    have a7 := apart_moved ORW.out HAPR.out HM8.out
                    generalize w8.setCell ⟨w3.heap.size + 1, 5, none⟩ (.slice B8 (m + 1) c8) = w9 at *
                    have HREL : Hid (_ ∧ _ ∧ _ ∧ _ ∧ _ ∧ _ ∧ _) := Lib.hid ⟨a1, a2, a3, a4, a5, a6, a7⟩
                    clear a1 a2 a3 a4 a5 a6 a7 e2' e3' e12' d2 d3 d12 q0 q1
                    go_wp2_with fail
                    go_roundw
                    case rel => exact ⟨j + 1, m + 1, c8, B8, by omega, by go_num, HREL.out.1, hn8, hn9, HREL.out.2.2.1, HREL.out.2.1, HREL.out.2.2.2.1, HREL.out.2.2.2.2.1, HREL.out.2.2.2.2.2.1, HREL.out.2.2.2.2.2.2⟩
                    case measure => simp [intOf]; omega
                  · go_simp
                    refine hK.out _ _ ⟨e2', e3'⟩ (fun hHeldN => ?_)
                    try simp only [Act.put]
                    try simp only [List.setIfInBounds_toArray]
                    try simp only [List.set_cons_succ]
                    try simp only [List.set_cons_zero]
                    clear hK KK
                    refine wpAnyH_ready (rs := [1]) (by kernel_rfl) (by simp) ?_
                    refine AllReadyH.cons rfl (fun KK hK => ?_) AllReadyH.nil
                    go_simp
                    refine hK.out _ _ ⟨e2', e3'⟩ (fun hHeldM => ?_)
                    try simp only [Act.put]
                    try simp only [List.setIfInBounds_toArray]
                    try simp only [List.set_cons_succ]
                    try simp only [List.set_cons_zero]
                    clear hK KK
                    refine wpAnyH_ready (rs := [11]) (by kernel_rfl) (by simp) ?_
                    refine AllReadyH.cons rfl (fun KK hK => ?_) AllReadyH.nil
                    refine append_moved_step (by rfl) _ _ 27 (by rfl) tWr w3 (.slice B m cc) m (Heap.ws (wl rh rw_ j)) (by rfl) (by rw [← hW]; exact OW.out) _ 1 1 [.int .i64 (j : Int), .int .i64 vx] (by rfl) (by rw [← hW]; exact RW.out) (one_cons rfl (one_cons rfl one_nil)) (by omega) (by omega) (by decide) ?_
                    rw [← hW]
                    intro v8 w8 ho8 hm8
                    obtain ⟨B8, c8, rfl, -⟩ := ho8.form
                    have HO8 := Lib.hid ho8
                    have HM8 := Lib.hid hm8
                    have K8 := Lib.hid (hm8.blk KW.out N9.out)
                    have S8 : Hid (Sb w8 w3.heap.size r) := Lib.hid (hm8.blk SW.out N8.out)
                    have f2 : _ ∧ _ := ⟨HEAP2.out w8 S8.out, HCELL.out w8 ho8.2⟩
                    have q8 := K8.out.cell 5 _ rfl
                    have z8 := K8.out.frozen 5
                    clear ho8 hm8
                    refine hK.out _ _ f2 (fun hHeld7 => ?_)
                    try simp only [Act.put]
                    try simp only [List.setIfInBounds_toArray]
                    try simp only [List.set_cons_succ]
                    try simp only [List.set_cons_zero]
                    clear hK KK
                    refine wpAnyH_take (i := 12) (v := .pointer (some ⟨(w3.heap.size + 1), 5, none⟩)) rfl (by kernel_rfl) (by kernel_rfl) (by kernel_rfl) (fun _ _ _ h => h) (Or.inl ⟨by rfl, fun W hS => by go_simp⟩) hHeld7 ?_
                    try simp only [Act.put]
                    try simp only [List.setIfInBounds_toArray]
                    try simp only [List.set_cons_succ]
                    try simp only [List.set_cons_zero]
                    refine wpAnyH_ready (rs := [13]) (by kernel_rfl) (by simp) ?_
                    refine AllReadyH.cons rfl (fun KK hK => ?_) AllReadyH.nil
                    go_simp
                    refine hK.out _ _ (by rw [cell_set_ne (by simp), cell_set_ne (by have := BLT.out; show w3.heap.size + 1 ≠ b1; omega)]; exact f2) (fun _ => ?_)
                    clear hK KK
                    refine wpAnyH_done (by kernel_rfl) ?_ _
                    clear q8 z8 f2
                    have hn9 : (Value.slice B8 (m + 1) c8).ownBlock ≠ some (w3.heap.size + 1) := HM8.out.ne KW.out.lt N9.out
                    have hn8 : (Value.slice B8 (m + 1) c8).ownBlock ≠ some w3.heap.size := HM8.out.ne (Blk.lt SW.out) N8.out
                    have a1 := HO8.out.set_ne (g := w3.heap.size + 1) (by omega) hn9 5 (.slice B8 (m + 1) c8)
                    rw [← HZT.out] at a1
                    have a2 := K8.out.set_ 5 (.slice B8 (m + 1) c8)
                    have a3 : Sb (w8.setCell ⟨w3.heap.size + 1, 5, none⟩ (.slice B8 (m + 1) c8)) w3.heap.size r := Blk.beside S8.out (by omega) 5 _
                    have nS : (Value.slice BS mS cS).ownBlock ≠ some (w3.heap.size + 1) := NS9.out
                    have a4 := (HM8.out.own OSW.out HAP.out HO8.out.2).set_ne (g := w3.heap.size + 1) (by omega) nS 5 (.slice B8 (m + 1) c8)
                    have a5 := apart_moved OSW.out HAP.out HM8.out
                    have a6 := (HM8.out.own ORW.out HAPR.out HO8.out.2).set_ne (g := w3.heap.size + 1) (by omega) NR9.out 5 (.slice B8 (m + 1) c8)
                    have a7 := apart_moved ORW.out HAPR.out HM8.out
                    generalize w8.setCell ⟨w3.heap.size + 1, 5, none⟩ (.slice B8 (m + 1) c8) = w9 at *
                    have HREL : Hid (_ ∧ _ ∧ _ ∧ _ ∧ _ ∧ _ ∧ _) := Lib.hid ⟨a1, a2, a3, a4, a5, a6, a7⟩
                    clear a1 a2 a3 a4 a5 a6 a7 e2' e3' e12' d2 d3 d12 q0 q1
                    go_wp2_with fail
                    go_roundw
                    case rel => exact ⟨j + 1, m + 1, c8, B8, by omega, by go_num, HREL.out.1, hn8, hn9, HREL.out.2.2.1, HREL.out.2.1, HREL.out.2.2.2.1, HREL.out.2.2.2.2.1, HREL.out.2.2.2.2.2.1, HREL.out.2.2.2.2.2.2⟩
                    case measure => simp [intOf]; omega
              · have hjr : j = rn := by omega
                rw [hjr] at HO
                clear hjr
                have KT := K3.out.below HO.out.2
                have t0 : wr.drew.cell? ⟨w.heap.size, 0, none⟩ = some (.int .i64 0) := KT.cell 0 _ rfl
                have t1 : wr.drew.cell? ⟨w.heap.size, 1, none⟩ = some (.int .i64 0) := KT.cell 1 _ rfl
                have t2 : wr.drew.cell? ⟨w.heap.size, 2, none⟩ = some (.slice none 0 0) := KT.cell 2 _ rfl
                have t3 : wr.drew.cell? ⟨w.heap.size, 3, none⟩ = some (.slice none 0 0) := KT.cell 3 _ rfl
                have t4 : wr.drew.cell? ⟨w.heap.size, 4, none⟩ = some (.slice none 0 0) := KT.cell 4 _ rfl
                have t5 : wr.drew.cell? ⟨w.heap.size, 5, none⟩ = some (.slice none 0 0) := KT.cell 5 _ rfl
                have u0_ : wr.cell? ⟨w.heap.size, 0, none⟩ = some (.int .i64 0) := KT.cell 0 _ rfl
                have u1_ : wr.cell? ⟨w.heap.size, 1, none⟩ = some (.int .i64 0) := KT.cell 1 _ rfl
                have u2_ : wr.cell? ⟨w.heap.size, 2, none⟩ = some (.slice none 0 0) := KT.cell 2 _ rfl
                have u3_ : wr.cell? ⟨w.heap.size, 3, none⟩ = some (.slice none 0 0) := KT.cell 3 _ rfl
                have u4_ : wr.cell? ⟨w.heap.size, 4, none⟩ = some (.slice none 0 0) := KT.cell 4 _ rfl
                have u5_ : wr.cell? ⟨w.heap.size, 5, none⟩ = some (.slice none 0 0) := KT.cell 5 _ rfl
                have y0_ : wr.frozen? ⟨w.heap.size, 0, none⟩ = false := KT.frozen 0
                have y1_ : wr.frozen? ⟨w.heap.size, 1, none⟩ = false := KT.frozen 1
                have y2_ : wr.frozen? ⟨w.heap.size, 2, none⟩ = false := KT.frozen 2
                have y3_ : wr.frozen? ⟨w.heap.size, 3, none⟩ = false := KT.frozen 3
                have y4_ : wr.frozen? ⟨w.heap.size, 4, none⟩ = false := KT.frozen 4
                have y5_ : wr.frozen? ⟨w.heap.size, 5, none⟩ = false := KT.frozen 5
                have z0 : wr.drew.frozen? ⟨w.heap.size, 0, none⟩ = false := KT.frozen 0
                have z1 : wr.drew.frozen? ⟨w.heap.size, 1, none⟩ = false := KT.frozen 1
                have z2 : wr.drew.frozen? ⟨w.heap.size, 2, none⟩ = false := KT.frozen 2
                have z3 : wr.drew.frozen? ⟨w.heap.size, 3, none⟩ = false := KT.frozen 3
                have z4 : wr.drew.frozen? ⟨w.heap.size, 4, none⟩ = false := KT.frozen 4
                have z5 : wr.drew.frozen? ⟨w.heap.size, 5, none⟩ = false := KT.frozen 5
                have HK6 := Lib.hid (six_blk KT (.int .i64 1) (.int .i64 y) (.slice BR mR cR) (.slice rP rpn rpc) (.slice BS mS cS) (.slice B m cc))
                have p0 : wr.drew.cell? ⟨w3.heap.size + 1, 0, none⟩ = some (.int .i64 1) := KR.out.cell 0 _ rfl
                have p1 : wr.drew.cell? ⟨w3.heap.size + 1, 1, none⟩ = some (.int .i64 y) := KR.out.cell 1 _ rfl
                have p2 : wr.drew.cell? ⟨w3.heap.size + 1, 2, none⟩ = some (.slice BR mR cR) := KR.out.cell 2 _ rfl
                have p3 : wr.drew.cell? ⟨w3.heap.size + 1, 3, none⟩ = some (.slice rP rpn rpc) := KR.out.cell 3 _ rfl
                have p4 : wr.drew.cell? ⟨w3.heap.size + 1, 4, none⟩ = some (.slice BS mS cS) := KR.out.cell 4 _ rfl
                have p5 : wr.drew.cell? ⟨w3.heap.size + 1, 5, none⟩ = some (.slice B m cc) := KR.out.cell 5 _ rfl
                have h0 : wr.drew.cell? ⟨w3.heap.size, 0, none⟩ = some (.slice rA rn rcc) := q0
                have NE1 : w.heap.size ≠ w3.heap.size + 1 := by have := K3.out.lt; omega
                have NE2 : w.heap.size ≠ w3.heap.size := by have := K3.out.lt; omega
                go_wp2_with fail
                refine wp_region_held_drew (S := (fun (W : World) => W.cell? ⟨w3.heap.size + 1, 0, none⟩ = some (.int .i64 1) ∧ W.cell? ⟨w3.heap.size + 1, 1, none⟩ = some (.int .i64 y) ∧ W.cell? ⟨w3.heap.size + 1, 2, none⟩ = some (.slice BR mR cR) ∧ W.cell? ⟨w3.heap.size + 1, 3, none⟩ = some (.slice rP rpn rpc) ∧ W.cell? ⟨w3.heap.size + 1, 4, none⟩ = some (.slice BS mS cS) ∧ W.cell? ⟨w3.heap.size + 1, 5, none⟩ = some (.slice B m cc) ∧ W.cell? ⟨w3.heap.size, 0, none⟩ = some (.slice rA rn rcc))) (by kernel_rfl) ⟨p0, p1, p2, p3, p4, p5, h0⟩ (fun hHeld => ?_)
                refine wpAnyH_take (i := 0) (v := .agg #[.int .i64 1, .int .i64 y, .slice BR mR cR, .slice rP rpn rpc, .slice BS mS cS, .slice B m cc]) rfl (by kernel_rfl) (by kernel_rfl) (by kernel_rfl) (fun _ _ _ h => h) (Or.inl ⟨by rfl, fun W hS => by obtain ⟨k0, k1, k2, k3, k4, k5, k6⟩ := hS; go_simp⟩) hHeld ?_
                try simp only [Act.put]
                try simp only [List.setIfInBounds_toArray]
                try simp only [List.set_cons_succ]
                try simp only [List.set_cons_zero]
                refine wpAnyH_take (i := 1) (v := .pointer (some ⟨w3.heap.size, 0, none⟩)) rfl (by kernel_rfl) (by kernel_rfl) (by kernel_rfl) (fun _ _ _ h => h) (Or.inl ⟨by rfl, fun W hS => by go_simp⟩) hHeld ?_
                try simp only [Act.put]
                try simp only [List.setIfInBounds_toArray]
                try simp only [List.set_cons_succ]
                try simp only [List.set_cons_zero]
                refine wpAnyH_take (i := 2) (v := .slice rA rn rcc) rfl (by kernel_rfl) (by kernel_rfl) (by kernel_rfl) (fun _ _ _ h => h) (Or.inl ⟨by rfl, fun W hS => by have k6 := hS.2.2.2.2.2.2; go_simp⟩) hHeld ?_
                try simp only [Act.put]
                try simp only [List.setIfInBounds_toArray]
                try simp only [List.set_cons_succ]
                try simp only [List.set_cons_zero]
                refine wpAnyH_ready (rs := [3]) (by kernel_rfl) (by simp) ?_
                refine AllReadyH.cons rfl (fun KK hK => ?_) AllReadyH.nil
                go_simp
                refine hK.out _ _ (by refine ⟨?_, ?_, ?_, ?_, ?_, ?_, ?_⟩ <;> (go_simp <;> first | assumption | exact p0 | exact p1 | exact p2 | exact p3 | exact p4 | exact p5 | exact h0)) (fun hHeld2 => ?_)
                try simp only [Act.put]
                try simp only [List.setIfInBounds_toArray]
                try simp only [List.set_cons_succ]
                try simp only [List.set_cons_zero]
                clear hK KK
                refine wpAnyH_take (i := 4) (v := .slice rA rn rcc) rfl (by kernel_rfl) (by kernel_rfl) (by kernel_rfl) (fun _ _ _ h => h) (Or.inl ⟨by rfl, fun W hS => by go_simp⟩) hHeld2 ?_
                try simp only [Act.put]
                try simp only [List.setIfInBounds_toArray]
                try simp only [List.set_cons_succ]
                try simp only [List.set_cons_zero]
                refine wpAnyH_take (i := 5) (v := .bool true) rfl (by kernel_rfl) (by kernel_rfl) (by kernel_rfl) (fun _ _ _ h => h) (Or.inl ⟨by rfl, fun W hS => by go_simp⟩) hHeld2 ?_
                try simp only [Act.put]
                try simp only [List.setIfInBounds_toArray]
                try simp only [List.set_cons_succ]
                try simp only [List.set_cons_zero]
                refine wpAnyH_done (by kernel_rfl) ?_ _
                clear t0 t1 t2 t3 t4 t5 u0_ u1_ u2_ u3_ u4_ u5_ y0_ y1_ y2_ y3_ y4_ y5_ z0 z1 z2 z3 z4 z5 p0 p1 p2 p3 p4 p5 h0
                have q0 := HK6.out.cell 0 _ rfl
                have q1 := HK6.out.cell 1 _ rfl
                have q2 := HK6.out.cell 2 _ rfl
                have q3 := HK6.out.cell 3 _ rfl
                have q4 := HK6.out.cell 4 _ rfl
                have q5 := HK6.out.cell 5 _ rfl
                (try simp only [Exit.then, List.getElem_toArray, List.getElem_cons_succ, List.getElem_cons_zero, List.setIfInBounds_toArray, List.set_cons_succ, List.set_cons_zero])
                rename_i hKK
                refine hKK _ _ ?_
                clear hKK hHeld hHeld2
                go_wp2
                refine bodyPost_ret (v := .tuple #[.agg #[.int .i64 1, .int .i64 y, .slice BR mR cR, .slice rP rpn rpc, .slice BS mS cS, .slice B m cc], .slice rA rn rcc, .bool true]) (by simp [results, Tryz.results13, go_sem, q0, q1, q2, q3, q4, q5]) rfl ?_
                have hbw := bl_trans B3.out HO.out.2
                have NW2 : w.heap.size < w2.heap.size := (KK.out.below B2.out).lt
                have NW3 : w.heap.size < w3.heap.size := K3.out.lt
                obtain ⟨eA, en, eP, epn, eh, ew⟩ := EQS.out
                have hlenr : rh.length = rn := by have h1 := RHEAP.out.1; rw [Heap.cs_len] at h1; omega
                have e1 : outS S = ⟨1, y, rg, r.s.path, pick r.s.seen 64, wl rh rw_ rn⟩ := by
                  rw [← HS.out]; unfold outS writesS wl; rw [if_pos hk, hk, hy, HRG.out, eh, ew, hlenr]
                have e2 : (if S.kind = 1 then S.h else h) = rh := by rw [← HS.out, if_pos hk, eh]
                have hA : ∀ b off, rA = some ⟨b, off, none⟩ → 0 < rn → b ≠ w.heap.size := by
                  intro b off e hn0
                  rcases HFA.out with ⟨f1, f2⟩ | f
                  · rw [eA, e] at f1
                    rw [en] at f2
                    exact HOLD.out b off f1.symm (by have f3 : rn = hn := f2; omega)
                  · have := f b off (by rw [eA]; exact e); omega
                have hP : ∀ b off, rP = some ⟨b, off, none⟩ → 0 < rpn → b ≠ w.heap.size := by
                  intro b off e hn0
                  rcases HFP.out with ⟨f1, f2⟩ | f
                  · rw [eP, e] at f1
                    cases f1
                  · have := f b off (by rw [eP]; exact e); omega
                rw [← HPQ.out]
                refine ⟨mR, rpn, mS, m, rn, ?_⟩
                rw [e1, e2]
                exact ⟨BR, cR, rP, rpc, BS, cS, B, cc, rA, rcc, rfl,
                  ⟨(six_rd0 (own_cap HOR.out).2.2 (fun b off e _ => by have h1 := HOR.out.base b (by rw [e]; rfl); omega) _ _ _ _ _ _).drew,
                    (six_rd0 (RPATH.out.below HO.out.2) hP _ _ _ _ _ _).drew,
                    (six_rd0 (own_cap HOS.out).2.2 (fun b off e _ => by have h1 := HOS.out.base b (by rw [e]; rfl); omega) _ _ _ _ _ _).drew,
                    (six_rd0 (own_cap HO.out).2.2 (fun b off e _ => by have h1 := HO.out.base b (by rw [e]; rfl); omega) _ _ _ _ _ _).drew⟩,
                  (six_rd0 (RHEAP.out.below HO.out.2) hA _ _ _ _ _ _).drew, (six_bel hbw (Nat.le_refl _) _ _ _ _ _ _).drew⟩
      · have hj64 := HJ.out
        clear HJ
        subst hj64
        have qne : (k != 1) = true := by simp [hk1]
        have q0 := KR.out.cell 0 _ rfl
        have q1 := KR.out.cell 1 _ rfl
        have q2 := KR.out.cell 2 _ rfl
        have q3 := KR.out.cell 3 _ rfl
        have q4 := KR.out.cell 4 _ rfl
        have q5 := KR.out.cell 5 _ rfl
        have KW := (K3.out.below HO.out.2)
        have t0 := KW.cell 0 _ rfl
        have t1 := KW.cell 1 _ rfl
        have t2 := KW.cell 2 _ rfl
        have t3 := KW.cell 3 _ rfl
        have t4 := KW.cell 4 _ rfl
        have t5 := KW.cell 5 _ rfl
        have tz := KW.frozen
        have HK6 := Lib.hid (six_blk KW (.int .i64 k) (.int .i64 y) (.slice none 0 0) (.slice none 0 0) (.slice B m cc) (.slice none 0 0))
        clear KW
        have hne0 : k ≠ 1 := hk1
        have NW : Hid (w.heap.size < w3.heap.size) := Lib.hid K3.out.lt
        go_wp2_with fail
        clear q0 q1 q2 q3 q4 q5 t0 t1 t2 t3 t4 t5 tz
        have q0 := HK6.out.cell 0 _ rfl
        have q1 := HK6.out.cell 1 _ rfl
        have q2 := HK6.out.cell 2 _ rfl
        have q3 := HK6.out.cell 3 _ rfl
        have q4 := HK6.out.cell 4 _ rfl
        have q5 := HK6.out.cell 5 _ rfl
        (try simp only [Exit.inBlock, Exit.then])
        refine bodyPost_ret (v := .tuple #[.agg #[.int .i64 k, .int .i64 y, .slice none 0 0, .slice none 0 0, .slice B m cc, .slice none 0 0], .slice HA hn hc, .bool true]) (by simp [results, Tryz.results13, go_sem, q0, q1, q2, q3, q4, q5]) rfl ?_
        have hbw := bl_trans B3.out HO.out.2
        have hrd := (own_cap HO.out).2.2
        have e1 : outS S = ⟨k, y, [], [], pick r.s.seen 64, []⟩ := by
          rw [← HS.out]; unfold outS; rw [hk, hy, if_neg hne0]
        have e2 : (if S.kind = 1 then S.h else h) = h := by rw [← HS.out, hk, if_neg hne0]
        rw [← HPQ.out]
        refine ⟨0, 0, m, 0, hn, ?_⟩
        rw [e1, e2]
        exact ⟨none, 0, none, 0, B, cc, none, 0, HA, hc, rfl, ⟨Rd.none_, Rd.none_, six_rd0 hrd (fun b off e _ => by have h1 := HO.out.base b (by rw [e]; rfl); have h2 := NW.out; omega) _ _ _ _ _ _, Rd.none_⟩, six_rd0 (HH.out.below hbw) HOLD.out _ _ _ _ _ _, six_bel hbw (Nat.le_refl _) _ _ _ _ _ _⟩
end Go.Proofs.YtbeeojccadeboaaGreat.Model
