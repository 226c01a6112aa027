/-
  WHAT THE DOCUMENT'S ANSWER FOR LAYER 15 RETURNS: One, Right, Find.
-/
import Derived.Test.YtddgdhaioomnnaaGreatSleepMem
import Derived.Test.YtddgdhaioomnnaaGreatTermA
import Derived.Test.YtddgdhaioomnnaaGreatReadsA
import Derived.Deep.QuietTactic
import Derived.BigQuiet
namespace Go.Proofs.YtddgdhaioomnnaaGreat.Sleep
open Go.ChangeShapes Go.WideShapes Go.ChangeAt Go.RowKit Mem
open Heap (Write)

theorem termcells_len (T : List Term.Op) : (Term.cellsS T).length ≤ 64 := by
  unfold Term.cellsS
  split
  · exact pick_len _ _
  · simp
def hasReg (T : List Term.Op) : Bool := T.any (fun o => decide (o.kind = 3))
set_option maxRecDepth 100000 in
set_option maxHeartbeats 8000000 in
theorem refone_c (x : RawS) (w : World) (b : Bool) (hi : Inner w x) (hl : Lim1 x) (hb : oneB (st x) = b) :
    Calls Tryz.prog 29 #[.agg (cS x)] w (RetB w b) := by
  obtain ⟨who, mode, til, A, n, c, W, B, m, d, T⟩ := x
  have HW : Hid (Rd w 2 A n (Heap.ws W)) := Lib.hid hi.1
  have HT : Hid (Rd w 2 B m (Term.ops T)) := Lib.hid hi.2
  have hm : m ≤ 1000000 := hl.2
  have HLT : Hid (T.length = m) := Lib.hid (Term.ops_len HT.out)
  have HLW : Hid (W.length = n) := Lib.hid (by have := HW.out.1; rw [Heap.ws_len] at this; omega)
  have HB0 : Hid (((decide (1 ≤ who ∧ who ≤ 8) && Reads.timeB til) && ((decide (n ≤ 24) && goodW W) && termB mode W T)) = b) := Lib.hid (by rw [← hb, ← HLW.out]; rfl)
  have hn0 : n ≤ 1000000 := hl.1
  clear hi hl hb
  simp only [cS]
  obtain ⟨w1, hw1⟩ : ∃ w1, w1 = w.alloc (.cells #[.int .i64 who, .int .i64 mode, .int .i64 til, .slice A n c, .slice B m d] 44) := ⟨_, rfl⟩
  have HBK : Hid (Blk w1 w.heap.size 44 #[.int .i64 who, .int .i64 mode, .int .i64 til, .slice A n c, .slice B m d]) := Lib.hid (by rw [hw1]; exact Blk.new _ _ _)
  have HB1 : Hid (Below w.heap.size w w1) := Lib.hid (by rw [hw1]; exact bl_alloc (Below.refl _ _) _)
  have q0 := HBK.out.cell 0 _ rfl
  have q2 := HBK.out.cell 2 _ rfl
  have q3 := HBK.out.cell 3 _ rfl
  rw [hw1] at q0 q2 q3
  obtain ⟨g2, h2⟩ : ∃ g, Reads.timeB til = g := ⟨_, rfl⟩
  rw [h2] at HB0
  cases g2
  · have HF : Hid (b = false) := Lib.hid (by rw [← HB0.out]; simp)
    go_enter Tryz.func29, Tryz.ntmps29
    go_wp2_with (go_at_call 48; refine (Reads.reftime_any _ _).mono ?_; rw [h2]; rintro e w' ⟨rfl, rfl⟩)
    go_ret
    exact ⟨ret_bool HF.out.symm, bl_alloc (Below.refl _ _) _⟩
  · by_cases ha : who < 1
    · have HF : Hid (b = false) := Lib.hid (by rw [← HB0.out, decide_eq_false (by omega)]; simp)
      go_enter Tryz.func29, Tryz.ntmps29
      go_wp2_with (go_at_call 48; refine (Reads.reftime_any _ _).mono ?_; rw [h2]; rintro e w' ⟨rfl, rfl⟩)
      go_ret
      exact ⟨ret_bool HF.out.symm, bl_alloc (Below.refl _ _) _⟩
    · by_cases hb : 8 < who
      · have HF : Hid (b = false) := Lib.hid (by rw [← HB0.out, decide_eq_false (by omega)]; simp)
        go_enter Tryz.func29, Tryz.ntmps29
        go_wp2_with (go_at_call 48; refine (Reads.reftime_any _ _).mono ?_; rw [h2]; rintro e w' ⟨rfl, rfl⟩)
        go_ret
        exact ⟨ret_bool HF.out.symm, bl_alloc (Below.refl _ _) _⟩
      · by_cases hc : 24 < n
        · have HF : Hid (b = false) := Lib.hid (by rw [← HB0.out, decide_eq_false (show ¬ n ≤ 24 by omega)]; simp)
          go_enter Tryz.func29, Tryz.ntmps29
          go_wp2_with (go_at_call 48; refine (Reads.reftime_any _ _).mono ?_; rw [h2]; rintro e w' ⟨rfl, rfl⟩)
          go_ret
          exact ⟨ret_bool HF.out.symm, bl_alloc (Below.refl _ _) _⟩
        · have hn : n ≤ 24 := by omega
          have HB2 : Hid ((goodW W && termB mode W T) = b) := Lib.hid (by rw [← HB0.out, decide_eq_true (show 1 ≤ who ∧ who ≤ 8 by omega), decide_eq_true hn]; simp)
          clear HB0
          go_enter Tryz.func29, Tryz.ntmps29
          go_wp2_with (go_at_call 48; refine (Reads.reftime_any _ _).mono ?_; rw [h2]; rintro e w' ⟨rfl, rfl⟩)
          rw [← hw1]
          clear hw1 q0 q2 q3 h2 ha hb hc
          go_loopw [4] (fun i wr => ∃ k : Nat, k ≤ n ∧ i = .int .i64 k ∧ Hid (Below w1.heap.size w1 wr) ∧ Hid (goodW (W.take k) = true)) (fun i _ => n - (intOf i).toNat)
          case atStart => exact ⟨0, Nat.zero_le _, rfl, Lib.hid (Below.refl _ _), Lib.hid rfl⟩
          case round =>
            obtain ⟨k, hk, rfl, HB, hall⟩ := hrel
            generalize wr = w2 at *
            have HBW := Lib.hid (bl_trans HB1.out HB.out)
            have q3 := (HBK.out.below HB.out).cell 3 _ rfl
            by_cases hlt : k < n
            · obtain ⟨b1, off, ⟨cl, vl⟩, rfl, hx, c0, c1⟩ := Heap.at_write (HW.out.below HBW.out) k hlt
              have HS := Lib.hid (good_take W k _ hx)
              have HX := Lib.hid hx
              clear hx
              obtain ⟨g3, h3⟩ : ∃ g, Heap.vB vl = g := ⟨_, rfl⟩
              have H3 := Lib.hid h3
              have bad : Hid (goodW (W.take (k + 1)) = false → b = false) := Lib.hid (fun h => by rw [← HB2.out, good_bad W (k + 1) h]; rfl)
              cases g3
              · have HF : Hid (b = false) := Lib.hid (bad.out (by rw [HS.out]; unfold wOk; dsimp only; rw [H3.out]; simp))
                go_wp2_with (go_at_call 44; refine (Reads.refval_any _ _).mono ?_; rw [h3]; rintro e w' ⟨rfl, rfl⟩)
                go_ret
                exact ⟨ret_bool HF.out.symm, HBW.out⟩
              · by_cases h4 : cl < 0
                · have HF : Hid (b = false) := Lib.hid (bad.out (by rw [HS.out]; unfold wOk; rw [decide_eq_false (by show ¬ (0 ≤ cl ∧ cl ≤ 63); omega)]; simp))
                  go_wp2_with (go_at_call 44; refine (Reads.refval_any _ _).mono ?_; rw [h3]; rintro e w' ⟨rfl, rfl⟩)
                  go_ret
                  exact ⟨ret_bool HF.out.symm, HBW.out⟩
                · by_cases h5 : 63 < cl
                  · have HF : Hid (b = false) := Lib.hid (bad.out (by rw [HS.out]; unfold wOk; rw [decide_eq_false (by show ¬ (0 ≤ cl ∧ cl ≤ 63); omega)]; simp))
                    go_wp2_with (go_at_call 44; refine (Reads.refval_any _ _).mono ?_; rw [h3]; rintro e w' ⟨rfl, rfl⟩)
                    go_ret
                    exact ⟨ret_bool HF.out.symm, HBW.out⟩
                  · have HOK : Hid (wOk ⟨cl, vl⟩ = true) := Lib.hid (by unfold wOk; dsimp only; rw [H3.out, decide_eq_true (by omega)]; rfl)
                    rcases Nat.eq_zero_or_pos k with hk0 | hk0
                    · subst hk0
                      have HY : Hid (goodW (W.take (0 + 1)) = true) := Lib.hid (by rw [HS.out, hall.out, HOK.out, decide_eq_true (by show (-1 : Int) < cl; omega)]; rfl)
                      have g0 : decide ((0 : Int) < ((0 : Nat) : Int)) = false := by decide
                      replace c0 : w2.cell? ⟨b1, off, none⟩ = some (.int .i64 cl) := by simpa using c0
                      replace c1 : w2.cell? ⟨b1, off + 1, none⟩ = some (.int .i64 vl) := by simpa using c1
                      go_wp2_with (go_at_call 44; refine (Reads.refval_any _ _).mono ?_; rw [h3]; rintro e w' ⟨rfl, rfl⟩)
                      go_quiet (fail)
                      go_wp2
                      go_roundw
                      case rel => exact ⟨1, by omega, by go_num, Lib.hid (bl_drewN HB.out _), HY⟩
                      case measure => simp [intOf]; omega
                    · obtain ⟨j, hkj⟩ : ∃ j, k = j + 1 := ⟨k - 1, by omega⟩
                      obtain ⟨b5, off5, ⟨cy, vy⟩, e5, hy, d0, d1⟩ := Heap.at_write (HW.out.below HBW.out) j (by omega)
                      injection e5 with e5
                      injection e5 with e6 e7
                      subst e6 e7
                      have HLA : Hid (lastOr (-1) ((W.take k).map Write.cell) = cy) := Lib.hid (by rw [hkj]; exact last_take Write.cell (-1) W j _ hy)
                      clear hy
                      have g0 : (k : Int) - 1 = (j : Int) := by omega
                      have g1 : (0 : Int) < (k : Int) := by omega
                      have g2 : (j : Int) < (n : Int) := by omega
                      have g3 : IntKind.i64.wrap (j : Int) = (j : Int) := by rw [IntKind.wrap_i64]; omega
                      clear hkj
                      by_cases h6 : cl ≤ cy
                      · have HF : Hid (b = false) := Lib.hid (bad.out (by rw [HS.out, HLA.out, decide_eq_false (by show ¬ cy < cl; omega)]; simp))
                        go_wp2_with (go_at_call 44; refine (Reads.refval_any _ _).mono ?_; rw [h3]; rintro e w' ⟨rfl, rfl⟩)
                        go_quiet (fail)
                        go_wp2
                        go_ret
                        exact ⟨ret_bool HF.out.symm, bl_drewN HBW.out _⟩
                      · have HY : Hid (goodW (W.take (k + 1)) = true) := Lib.hid (by rw [HS.out, hall.out, HOK.out, HLA.out, decide_eq_true (by show cy < cl; omega)]; rfl)
                        have h6' : decide (cl ≤ cy) = false := by simpa using h6
                        clear h6
                        go_wp2_with (go_at_call 44; refine (Reads.refval_any _ _).mono ?_; rw [h3]; rintro e w' ⟨rfl, rfl⟩)
                        go_quiet (fail)
                        go_wp2
                        go_roundw
                        case rel => exact ⟨k + 1, by omega, by go_num, Lib.hid (bl_drewN HB.out _), HY⟩
                        case measure => simp [intOf]; omega
            · obtain rfl : k = n := by omega
              have HG : Hid (goodW W = true) := Lib.hid (by have h5 := hall.out; rwa [List.take_of_length_le (by rw [HLW.out]; exact Nat.le_refl _)] at h5)
              have HB3 : Hid (termB mode W T = b) := Lib.hid (by rw [← HB2.out, HG.out]; rfl)
              have q1 := (HBK.out.below HB.out).cell 1 _ rfl
              have q4 := (HBK.out.below HB.out).cell 4 _ rfl
              clear HB2
              by_cases m1 : mode = 1
              · subst m1
                have HF : Hid (decide (m = 0) = b) := Lib.hid (by rw [← HB3.out, ← HLT.out]; rfl)
                by_cases h0 : m = 0
                · subst h0
                  go_wp2
                  go_ret
                  exact ⟨ret_bool (by rw [← HF.out]; simp), HBW.out⟩
                · have t0 : ((m : Int) == 0) = false := by simpa using h0
                  go_wp2
                  go_ret
                  exact ⟨ret_bool (by rw [← HF.out]; simp [h0]), HBW.out⟩
              · have t1 : (mode == 1) = false := by simpa using m1
                by_cases m2 : mode = 2
                · subst m2
                  have HF : Hid (decide (m = 0) = b) := Lib.hid (by rw [← HB3.out, ← HLT.out]; rfl)
                  by_cases h0 : m = 0
                  · subst h0
                    go_wp2
                    go_ret
                    exact ⟨ret_bool (by rw [← HF.out]; simp), HBW.out⟩
                  · have t0 : ((m : Int) == 0) = false := by simpa using h0
                    go_wp2
                    go_ret
                    exact ⟨ret_bool (by rw [← HF.out]; simp [h0]), HBW.out⟩
                · have t2 : (mode == 2) = false := by simpa using m2
                  by_cases m3 : mode = 3
                  · subst m3
                    obtain ⟨v, hv⟩ : ∃ v, Term.checkS T = v := ⟨_, rfl⟩
                    obtain ⟨E, hE⟩ : ∃ E, Term.cellsS T = E := ⟨_, rfl⟩
                    have HF : Hid ((decide (v = 0) && (!(hasReg T) && decide (E = W.map Write.cell))) = b) := Lib.hid (by rw [← HB3.out, ← hE, ← hv]; rfl)
                    have HE := Lib.hid hE
                    have HEL : Hid (E.length ≤ 64) := Lib.hid (by rw [← hE]; exact termcells_len T)
                    have HCK := Lib.hid (Term.refcheck T B m d w2 v (HT.out.below HBW.out) hm hv)
                    clear hv hE HB3
                    by_cases h0 : v = 0
                    · subst h0
                      go_wp2_with fail
                      refine HCK.out.mono ?_
                      rintro e w3 ⟨rfl, b3⟩
                      have HB4 := Lib.hid (HB.out.trans (b3.mono HB.out.size))
                      have HC := Lib.hid (bl_trans HBW.out b3)
                      clear b3 HCK q1 q3 q4
                      go_wp2
                      go_loopw [6] (fun i wr => ∃ j : Nat, j ≤ m ∧ i = .int .i64 j ∧ wr = w3 ∧ Hid (hasReg (T.take j) = false)) (fun i _ => m - (intOf i).toNat)
                      case atStart => exact ⟨0, Nat.zero_le _, rfl, by trivial, Lib.hid rfl⟩
                      case round =>
                        obtain ⟨j, hj, rfl, rfl, hno⟩ := hrel
                        have q4 := (HBK.out.below HB4.out).cell 4 _ rfl
                        by_cases hlt2 : j < m
                        · obtain ⟨b1, off, ⟨kd, nn⟩, rfl, hx, c0, c1⟩ := Term.at_op (HT.out.below HC.out) j hlt2
                          have HS := Lib.hid (take_any T (fun o => decide (o.kind = 3)) j _ hx)
                          have HX := Lib.hid hx
                          clear hx
                          by_cases h3 : kd = 3
                          · have HF2 : Hid (b = false) := Lib.hid (by rw [← HF.out, show hasReg T = true from any_good T _ j _ HX.out (by simpa using h3)]; simp)
                            go_wp2
                            go_ret
                            exact ⟨ret_bool HF2.out.symm, HC.out⟩
                          · have h3' : (kd == 3) = false := by simpa using h3
                            have HS2 : Hid (hasReg (T.take (j + 1)) = false) := Lib.hid (by have := HS.out; unfold hasReg at hno ⊢; rw [this, hno.out]; simpa using h3)
                            clear h3
                            go_wp2
                            go_roundw
                            case rel => exact ⟨j + 1, by omega, by go_num, by trivial, HS2⟩
                            case measure => simp [intOf]; omega
                        · have HNR : Hid (hasReg T = false) := Lib.hid (by have h5 := hno.out; rwa [List.take_of_length_le (by rw [HLT.out]; omega)] at h5)
                          have HF2 : Hid (decide (E = W.map Write.cell) = b) := Lib.hid (by rw [← HF.out, HNR.out]; simp)
                          have HCE := Lib.hid (Term.refcells T B m d wr E E.length (HT.out.below HC.out) hm HE.out rfl)
                          generalize wr = w3 at *
                          go_wp2_with fail
                          refine HCE.out.mono ?_
                          rintro e w4 ⟨E4, d4, rfl, hrE, b4⟩
                          have HRE := Lib.hid hrE
                          have HB5 := Lib.hid (HB4.out.trans (b4.mono HB4.out.size))
                          have HC4 := Lib.hid (bl_trans HC.out b4)
                          clear b4 hrE HCE q4
                          have q3 := (HBK.out.below HB5.out).cell 3 _ rfl
                          by_cases hel : E.length = k
                          · rw [hel] at HRE ⊢
                            go_wp2
                            go_loopw [8] (fun i wr => ∃ p : Nat, p ≤ k ∧ i = .int .i64 p ∧ Hid (Below w4.heap.size w4 wr) ∧ Hid (E.take p = (W.map Write.cell).take p)) (fun i _ => k - (intOf i).toNat)
                            case atStart => exact ⟨0, Nat.zero_le _, rfl, Lib.hid (Below.refl _ _), Lib.hid rfl⟩
                            case round =>
                              obtain ⟨p, hp, rfl, HB6, hsame⟩ := hrel
                              generalize wr = w5 at *
                              have q3' := (HBK.out.below (HB5.out.trans (HB6.out.mono HB5.out.size))).cell 3 _ rfl
                              have HC5 := Lib.hid (bl_trans HC4.out HB6.out)
                              by_cases hlt3 : p < k
                              · obtain ⟨b1, off, z, rfl, hx, c0⟩ := at_z (HRE.out.below HB6.out) p hlt3
                                obtain ⟨b6, off6, ⟨cl, vl⟩, rfl, hy, d0, d1⟩ := Heap.at_write (HW.out.below HC5.out) p hlt3
                                have HX := Lib.hid hx
                                have HY : Hid ((W.map Write.cell)[p]? = some cl) := Lib.hid (by rw [List.getElem?_map, hy]; rfl)
                                clear hx hy q3
                                by_cases he : z = cl
                                · subst he
                                  have HS := Lib.hid (take_eq E (W.map Write.cell) p _ HX.out HY.out hsame.out)
                                  go_wp2_with fail
                                  go_quiet (fail)
                                  go_wp2
                                  go_roundw
                                  case rel => exact ⟨p + 1, by omega, by go_num, Lib.hid (bl_drewN HB6.out _), HS⟩
                                  case measure => simp [intOf]; omega
                                · have HF3 : Hid (b = false) := Lib.hid (by rw [← HF2.out]; exact take_ne E (W.map Write.cell) p _ _ HX.out HY.out he)
                                  have he2 : (z != cl) = true := by simpa using he
                                  clear he
                                  go_wp2_with fail
                                  go_quiet (fail)
                                  go_wp2
                                  go_ret
                                  exact ⟨ret_bool HF3.out.symm, bl_drewN HC5.out _⟩
                              · have HF3 : Hid (b = true) := Lib.hid (by
                                  rw [← HF2.out]; have h5 := hsame.out
                                  rw [List.take_of_length_le (by omega), List.take_of_length_le (by rw [List.length_map, HLW.out]; omega)] at h5
                                  simpa using h5)
                                clear q3
                                go_wp2
                                go_ret
                                exact ⟨ret_bool HF3.out.symm, HC5.out⟩
                          · have HF3 : Hid (b = false) := Lib.hid (by rw [← HF2.out]; refine decide_eq_false (fun e => hel ?_); rw [e, List.length_map, HLW.out])
                            have t5 : ((E.length : Int) != (k : Int)) = true := by simp; omega
                            go_wp2
                            go_ret
                            exact ⟨ret_bool HF3.out.symm, HC4.out⟩
                    · have t0 : (v != 0) = true := by simpa using h0
                      have HF2 : Hid (b = false) := Lib.hid (by rw [← HF.out, decide_eq_false h0]; rfl)
                      clear h0
                      go_wp2_with fail
                      refine HCK.out.mono ?_
                      rintro e w3 ⟨rfl, b3⟩
                      go_wp2
                      go_ret
                      exact ⟨ret_bool HF2.out.symm, bl_trans HBW.out b3⟩
                  · have t3 : (mode != 3) = true := by simpa using m3
                    have HF : Hid (b = false) := Lib.hid (by rw [← HB3.out]; unfold termB; rw [if_neg (by omega), if_neg m3])
                    clear m1 m2 m3
                    go_wp2
                    go_ret
                    exact ⟨ret_bool HF.out.symm, HBW.out⟩
end Go.Proofs.YtddgdhaioomnnaaGreat.Sleep
