/-
  WHAT THE DOCUMENT'S ANSWER FOR LAYER 9 RETURNS: Read.
-/
import Derived.Test.YtilfkohckmknkaaShapeRef2
import Derived.Test.YtilfkohckmknkaaStep
import Derived.Deep.RegionHeld3
import Derived.Deep.RegionLaw
namespace Go.Proofs.Ytilfkohckmknkaa.Shape
open Go.ChangeShapes Go.WideShapes Go.ChangeAt Go.RowKit Mem Go.Proofs.Ytilfkohckmknkaa.Code

theorem ops_more (n j : Nat) (hj : j < n) (l : List Int) : opsR (n - j) l = ((opR l).1 :: (opsR (n - (j + 1)) (opR l).2).1, (opsR (n - (j + 1)) (opR l).2).2) := by
  rw [show n - j = (n - (j + 1)) + 1 by omega]; rfl
theorem steps_more (n j : Nat) (hj : j < n) (l : List Int) : stepsR (n - j) l = ((stepR l).1 :: (stepsR (n - (j + 1)) (stepR l).2).1, (stepsR (n - (j + 1)) (stepR l).2).2) := by
  rw [show n - j = (n - (j + 1)) + 1 by omega]; rfl
theorem codes_more (n j : Nat) (hj : j < n) (l : List Int) : codesR (n - j) l = ((codeR l).1 :: (codesR (n - (j + 1)) (codeR l).2).1, (codesR (n - (j + 1)) (codeR l).2).2) := by
  rw [show n - j = (n - (j + 1)) + 1 by omega]; rfl
theorem tRCodes : SliceT Try.prog 31 35 1 24 := SliceT.mk_ (z := .slice none 0 0) Try.underlying31 (by kernel_rfl) rfl (by decide)
/-- What is returned: codes, and whether there are any. -/
def RetR (w : World) (r : Option (List (List Step))) (e : Ending) (w' : World) : Prop :=
  ∃ B d q M, e = .returned (.tuple #[.slice B q d, .bool r.isSome]) ∧ Codes w' B q M ∧ cc M = r.getD [] ∧ LimC M ∧ Below w.heap.size w w'

set_option maxRecDepth 100000 in
set_option maxHeartbeats 4000000 in
theorem refread (b : List Int) (A : Option Addr) (n c : Nat) (w : World) (r : Option (List (List Step))) (hr : Rd w 1 A n (bs b)) (hb : BB b) (hn : n ≤ 1000000) (hv : readS b = r) :
    Calls Try.prog 19 #[.slice A n c] w (RetR w r) := by
  have HR := Lib.hid hr
  have HB := Lib.hid hb
  have HV := Lib.hid hv
  obtain ⟨N, hN⟩ : ∃ N : Nat, hd b = (N : Int) := ⟨(hd b).toNat, by have := hd_bd hb 0; rw [List.drop_zero] at this; omega⟩
  have hN2 : N < 256 := by have := hd_bd hb 0; rw [List.drop_zero, hN] at this; omega
  have HN := Lib.hid hN
  clear hr hb hv hN
  have HAT0 : Hid (∀ W, Below w.heap.size w W → ∀ (p : Nat), p ≤ 2000000000 → ∀ z : Int, z = (p : Int) → Calls Try.prog 31 #[.slice A n c, .int .i64 z] W fun e w' => e = .returned (.int .i64 (hd (b.drop p))) ∧ W = w') :=
    Lib.hid (fun W hW p hp => refat b A n c p W (HR.out.below hW) HB.out hn hp)
  have HNU : Hid (∀ W, Below w.heap.size w W → ∀ (p : Nat), p ≤ 1000000000 → ∀ z : Int, z = (p : Int) → Calls Try.prog 32 #[.slice A n c, .int .i64 z] W fun e w' => e = .returned (.int .i64 (num (b.drop p))) ∧ W = w') :=
    Lib.hid (fun W hW p hp => refnumber b A n c p W (HR.out.below hW) HB.out hn hp)
  go_enter Try.func19, Try.ntmps19
  go_wp2
  go_loopw [4, 5, 6] (fun v pv iv wr => ∃ (i p : Nat) (M : List RawC), i ≤ N ∧ iv = .int .i64 i ∧ pv = .int .i64 p ∧ 1 ≤ p ∧ p ≤ 1 + i * 400000 ∧ Own w wr 35 1 v i (hs M) ∧ Hid (Inners wr M) ∧ Hid (OffL v M) ∧ Hid (LimC M) ∧
      Hid (codesR N (b.drop 1) = (cc M ++ (codesR (N - i) (b.drop p)).1, (codesR (N - i) (b.drop p)).2))) (fun _ _ iv _ => N - (intOf iv).toNat)
  case atStart => exact ⟨0, 1, [], Nat.zero_le _, rfl, rfl, Nat.le_refl _, by omega, Own.nil_ (Below.refl _ _), Lib.hid Inners.nil_, Lib.hid OffL.nil_, Lib.hid LimC.nil_, Lib.hid rfl⟩
  case round =>
    obtain ⟨i, p, M, hi, rfl, rfl, hp1, hp, hown, HIN, HOF, HLM, HP⟩ := hrel
    generalize wr = w1 at *
    have HOWN := Lib.hid hown
    have HH0 : Hid (hd (b.drop 0) = (N : Int)) := Lib.hid HN.out
    clear hown
    by_cases hlt : i < N
    · obtain ⟨many, hmany⟩ : ∃ m : Nat, hd (b.drop p) = (m : Int) := ⟨(hd (b.drop p)).toNat, by have := hd_bd HB.out p; omega⟩
      have hm2 : many < 256 := by have := hd_bd HB.out p; rw [hmany] at this; omega
      have HMY := Lib.hid hmany
      clear hmany
      have T0 : True := trivial
      go_wp2_with (first
        | (go_at_call 31; clear T0; refine (HAT0.out _ HOWN.out.2 0 (by omega) _ rfl).mono ?_; rw [HH0.out]; rintro e w' ⟨rfl, rfl⟩)
        | (go_at_call 31; refine (HAT0.out _ HOWN.out.2 p (by omega) _ rfl).mono ?_; rw [HMY.out]; rintro e w' ⟨rfl, rfl⟩))
      have HCR : Hid (codeR (b.drop p) = ((stepsR many (b.drop (p + 1))).1, (stepsR many (b.drop (p + 1))).2)) := Lib.hid (by
        unfold codeR; rw [HMY.out, Int.toNat_natCast, List.drop_drop])
      go_loopw [5, 7, 9] (fun pv vc kv wr => ∃ (k q : Nat) (m : List Raw), k ≤ many ∧ kv = .int .i64 k ∧ pv = .int .i64 q ∧ 1 ≤ q ∧ q ≤ p + 1 + k * 1300 ∧ Own w1 wr 58 4 vc k (rs m) ∧ Hid (Terms wr m) ∧ Hid (Off vc m) ∧ Hid (Lim m) ∧
          Hid (∀ r ∈ m, ∀ b off, r.T = some ⟨b, off, none⟩ → 0 < r.n → w1.heap.size ≤ b) ∧
          Hid (stepsR many (b.drop (p + 1)) = (ss m ++ (stepsR (many - k) (b.drop q)).1, (stepsR (many - k) (b.drop q)).2))) (fun _ _ kv _ => many - (intOf kv).toNat)
      case atStart => exact ⟨0, p + 1, [], Nat.zero_le _, rfl, by go_num, by omega, by omega, Own.nil_ (Below.refl _ _), Lib.hid Terms.nil_, Lib.hid (by intro r hr; cases hr), Lib.hid (by intro r hr; cases hr), Lib.hid (by intro r hr; cases hr), Lib.hid rfl⟩
      case round =>
        obtain ⟨k, q, m, hk, rfl, rfl, hq1, hq, hown, HT, HO, HL, HNW, HPS⟩ := hrel
        generalize wr = w2 at *
        have HOWC := Lib.hid hown
        clear hown
        by_cases hkt : k < many
        · obtain ⟨x0, hx0⟩ : ∃ x, hd (b.drop q) = x := ⟨_, rfl⟩
          obtain ⟨x1, hx1⟩ : ∃ x, hd (b.drop (q + 1)) = x := ⟨_, rfl⟩
          obtain ⟨x2, hx2⟩ : ∃ x, hd (b.drop (q + 2)) = x := ⟨_, rfl⟩
          obtain ⟨no, hno⟩ : ∃ m : Nat, hd (b.drop (q + 3)) = (m : Int) := ⟨(hd (b.drop (q + 3))).toNat, by have := hd_bd HB.out (q + 3); omega⟩
          have hno2 : no < 256 := by have := hd_bd HB.out (q + 3); rw [hno] at this; omega
          have H0 := Lib.hid hx0
          have H1 := Lib.hid hx1
          have H2 := Lib.hid hx2
          have H3 := Lib.hid hno
          have HWB : Hid (Below w.heap.size w w2) := Lib.hid (bl_trans HOWN.out.2 HOWC.out.2)
          have HSR : Hid (stepR (b.drop q) = (⟨x0, x1, x2, (opsR no (b.drop (q + 4))).1⟩, (opsR no (b.drop (q + 4))).2)) := Lib.hid (by
            unfold stepR; simp only [List.drop_drop]; rw [hx0, hx1, hx2, hno, Int.toNat_natCast])
          clear hx0 hx1 hx2 hno
          have T0 : True := trivial
          have T1 : True := trivial
          have T2 : True := trivial
          go_wp2_with (first
            | (go_at_call 31; clear T0; refine (HAT0.out _ HWB.out q (by omega) _ rfl).mono ?_; rw [H0.out]; rintro e w' ⟨rfl, rfl⟩)
            | (go_at_call 31; clear T1; refine (HAT0.out _ HWB.out (q + 1) (by omega) _ (by omega)).mono ?_; rw [H1.out]; rintro e w' ⟨rfl, rfl⟩)
            | (go_at_call 31; clear T2; refine (HAT0.out _ HWB.out (q + 2) (by omega) _ (by omega)).mono ?_; rw [H2.out]; rintro e w' ⟨rfl, rfl⟩)
            | (go_at_call 31; refine (HAT0.out _ (bl_alloc HWB.out _) (q + 3) (by omega) _ (by omega)).mono ?_; rw [H3.out]; rintro e w' ⟨rfl, rfl⟩))
          go_loopw [5, 12] (fun pv jv wr => ∃ (j u : Nat) (ts : List Term.Op) (vt : Value), j ≤ no ∧ jv = .int .i64 j ∧ pv = .int .i64 u ∧ 1 ≤ u ∧ u ≤ q + 4 + j * 5 ∧ Own w2 wr 62 2 vt j (Term.ops ts) ∧
              Hid (Blk wr w2.heap.size 58 #[.int .i64 x0, .int .i64 x1, .int .i64 x2, vt]) ∧ Hid (vt.ownBlock ≠ some w2.heap.size) ∧
              Hid (opsR no (b.drop (q + 4)) = (ts ++ (opsR (no - j) (b.drop u)).1, (opsR (no - j) (b.drop u)).2))) (fun _ jv _ => no - (intOf jv).toNat)
          case atStart => exact ⟨0, q + 4, [], .slice none 0 0, Nat.zero_le _, rfl, by go_num, by omega, by omega, Own.nil_ (bl_alloc (Below.refl _ _) _), Lib.hid (Blk.new _ _ _), Lib.hid (by simp [Value.ownBlock]), Lib.hid rfl⟩
          case round =>
            obtain ⟨j, u, ts, vt, hj, rfl, rfl, hu1, hu, hown, HBK, HNE, HPO⟩ := hrel
            generalize wr = w3 at *
            have HOWT := Lib.hid hown
            clear hown
            by_cases hjt : j < no
            · obtain ⟨kd, hkd⟩ : ∃ x, hd (b.drop u) = x := ⟨_, rfl⟩
              obtain ⟨nn, hnn⟩ : ∃ x, num (b.drop (u + 1)) = x := ⟨_, rfl⟩
              have HKD := Lib.hid hkd
              have HNN := Lib.hid hnn
              have HOR : Hid (opR (b.drop u) = (⟨kd, nn⟩, b.drop (u + 5))) := Lib.hid (by unfold opR; simp only [List.drop_drop]; rw [hkd, hnn])
              have HW3 : Hid (Below w.heap.size w w3) := Lib.hid (bl_trans HWB.out HOWT.out.2)
              obtain ⟨Bt, dt, rfl, _⟩ := HOWT.out.form
              have q3 := HBK.out.cell 3 _ rfl
              have z3 := HBK.out.frozen 3
              have hub : u + 1 ≤ 1000000000 := by omega
              have hub2 : u ≤ 2000000000 := by omega
              have hw1 : IntKind.i64.wrap ((u : Int) + 1) = (u : Int) + 1 := by rw [IntKind.wrap_i64]; omega
              have HZ1 : Hid ((u : Int) + 1 = ((u + 1 : Nat) : Int)) := Lib.hid (by omega)
              have hb1 : (j + 1) * 16 ≤ 140737488355328 := by omega
              have hb2 : j + 1 ≤ 9223372036854775807 := by omega
              have q4 : (w3.alloc (.cells #[.int .i64 kd, .int .i64 nn] 62)).cell? ⟨w2.heap.size, 3, none⟩ = some (.slice Bt j dt) := cell_up q3 (bl_alloc (Below.refl _ _) _)
              have HBA : Hid (Blk (w3.alloc (.cells #[.int .i64 kd, .int .i64 nn] 62)).drew w2.heap.size 58 #[.int .i64 x0, .int .i64 x1, .int .i64 x2, .slice Bt j dt]) := Lib.hid (HBK.out.alloc _)
              have HCA : Hid (Calls Try.prog 31 #[.slice A n c, .int .i64 (u : Int)] w3.drew fun e w' => e = .returned (.int .i64 kd) ∧ w3.drew = w') := Lib.hid (by rw [← hkd]; exact HAT0.out _ HW3.out.drew u hub2 _ rfl)
              have HCN : Hid (Calls Try.prog 32 #[.slice A n c, .int .i64 ((u : Int) + 1)] w3.drew fun e w' => e = .returned (.int .i64 nn) ∧ w3.drew = w') := Lib.hid (by rw [← hnn]; exact HNU.out _ HW3.out.drew (u + 1) hub _ HZ1.out)
              clear hkd hnn
              go_wp2_with fail
              go_region_law
                (first
                | (refine call_step ?_ 31 #[.slice A n c, .int .i64 (u : Int)] (.int .i64 kd) HCA.out ?_ ?_; (focus rfl); (focus (go_simp; done)))
                | (refine call_step ?_ 32 #[.slice A n c, .int .i64 ((u : Int) + 1)] (.int .i64 nn) HCN.out ?_ ?_; (focus rfl); (focus (go_simp; done)))
                | (refine append_step (by rfl) _ _ 56 (by rfl) Term.tROp w2 (.slice Bt j dt) j (Term.ops ts) (by rfl) (HOWT.out.alloc _).drew _ 1 1 [.int .i64 kd, .int .i64 nn] (by rfl) (Rd.built w3 2 1 [.int .i64 kd, .int .i64 nn] _ rfl).drew (one_cons rfl (one_cons rfl one_nil)) hb1 hb2 ?_
                   intro v5 w5 ho5 hg5 hat5
                   obtain ⟨B5, d5, rfl, _⟩ := ho5.form
                   have HO5 := Lib.hid ho5
                   have HB5 := Lib.hid (HBA.out.grown hg5 HNE.out)
                   have HN5 := Lib.hid (grown_ne hat5 HNE.out HBA.out.lt)
                   have q5 := HB5.out.cell 3 _ rfl
                   have z5 := HB5.out.frozen 3
                   clear ho5 hg5 hat5))
              all_goals
                have HO6 := Lib.hid (HO5.out.set_ne (Nat.le_refl _) HN5.out 3 (.slice B5 (j + 1) d5))
                have HB6 : Hid (Blk (w5.setCell ⟨w2.heap.size, 3, none⟩ (.slice B5 (j + 1) d5)) w2.heap.size 58 #[.int .i64 x0, .int .i64 x1, .int .i64 x2, .slice B5 (j + 1) d5]) := Lib.hid (HB5.out.set_ 3 _)
                have HP6 : Hid (opsR no (b.drop (q + 4)) = ((ts ++ [⟨kd, nn⟩]) ++ (opsR (no - (j + 1)) (b.drop (u + 5))).1, (opsR (no - (j + 1)) (b.drop (u + 5))).2)) := Lib.hid (by rw [HPO.out, ops_more no j hjt, HOR.out]; simp)
                clear HBA q3 q4 q5 z3 z5 HO5 HB5 HCA HCN hw1
                go_wp2
                go_roundw
                case rel => exact ⟨j + 1, u + 5, ts ++ [⟨kd, nn⟩], .slice B5 (j + 1) d5, by omega, by go_num, by go_num, by omega, by omega, by have := HO6.out; unfold Term.ops at this ⊢; rw [List.flatMap_append]; exact this, HB6, HN5, HP6⟩
                case measure => simp [intOf]; omega
            · obtain rfl : j = no := by omega
              have HOPS : Hid (opsR j (b.drop (q + 4)) = (ts, b.drop u)) := Lib.hid (by rw [HPO.out, Nat.sub_self]; simp [opsR])
              obtain ⟨Bt, dt, rfl, hrdt⟩ := HOWT.out.form
              obtain ⟨Bc, dc, rfl, _⟩ := HOWC.out.form
              have HRT := Lib.hid hrdt
              have hlimt := own_lim HOWT.out
              have q0 := HBK.out.cell 0 _ rfl
              have q1 := HBK.out.cell 1 _ rfl
              have q2 := HBK.out.cell 2 _ rfl
              have q3 := HBK.out.cell 3 _ rfl
              have HTS : Hid (Terms w3 (m ++ [⟨⟨x0, x1, x2, ts⟩, Bt, j, dt⟩])) := Lib.hid (Terms.app (HT.out.below HOWT.out.2) (by intro r hr; rw [List.mem_singleton] at hr; subst hr; exact ⟨HRT.out, hlimt⟩))
              have HOS : Hid (Off (.slice Bc k dc) (m ++ [⟨⟨x0, x1, x2, ts⟩, Bt, j, dt⟩])) := Lib.hid (Off.app HO.out (by
                intro r hr b' off' e hpos e2
                rw [List.mem_singleton] at hr
                subst hr
                simp only at e
                subst e
                have h1 := HOWC.out.lt _ e2
                have h2 := HOWT.out.base b' rfl
                omega))
              have HNS : Hid (∀ r ∈ m ++ [(⟨⟨x0, x1, x2, ts⟩, Bt, j, dt⟩ : Raw)], ∀ b off, r.T = some ⟨b, off, none⟩ → 0 < r.n → w1.heap.size ≤ b) := Lib.hid (by
                intro r hr
                rcases List.mem_append.1 hr with hr | hr
                · exact HNW.out r hr
                · rw [List.mem_singleton] at hr
                  subst hr
                  intro b' off' e hpos
                  simp only at e
                  subst e
                  have h2 := HOWT.out.base b' rfl
                  have h3 := HOWC.out.2.size
                  omega)
              have HLS : Hid (Lim (m ++ [⟨⟨x0, x1, x2, ts⟩, Bt, j, dt⟩])) := Lib.hid (by
                intro r hr
                rcases List.mem_append.1 hr with hr | hr
                · exact HL.out r hr
                · rw [List.mem_singleton] at hr; subst hr; show j ≤ 1000000; omega)
              have HPS2 : Hid (stepsR many (b.drop (p + 1)) = (ss (m ++ [⟨⟨x0, x1, x2, ts⟩, Bt, j, dt⟩]) ++ (stepsR (many - (k + 1)) (b.drop u)).1, (stepsR (many - (k + 1)) (b.drop u)).2)) := Lib.hid (by
                rw [HPS.out, steps_more many k hkt, HSR.out, HOPS.out, ss_app]; simp [ss])
              clear hrdt hlimt
              go_wp2_with (at_builtin; refine append_at rfl _ _ 35 rfl tRStep w1 (.slice Bc k dc) k (rs m) rfl ((HOWC.out.below HOWT.out.2).alloc _) _ 1 1 (rs [⟨⟨x0, x1, x2, ts⟩, Bt, j, dt⟩]) rfl (Rd.built _ 4 1 (rs [⟨⟨x0, x1, x2, ts⟩, Bt, j, dt⟩]) _ rfl) (rs_one _) (by omega) (by omega) ?_; intro v6 w6 ho6 hg6 hat6; have HO6 := Lib.hid ho6; have HT6 := Lib.hid ((HTS.out.below (bl_alloc (Below.refl _ _) _)).grown HOS.out hg6); have HF6 := Lib.hid (Off.grown (HTS.out.below (bl_alloc (Below.refl _ _) _)) HOS.out hat6); clear ho6 hg6 hat6)
              go_roundw
              case rel => exact ⟨k + 1, u, m ++ [⟨⟨x0, x1, x2, ts⟩, Bt, j, dt⟩], by omega, by go_num, rfl, by omega, by omega, by rw [rs_app]; exact HO6.out, HT6, HF6, HLS, HNS, HPS2⟩
              case measure => simp [intOf]; omega
        · obtain rfl : k = many := by omega
          have HCD : Hid (codeR (b.drop p) = (ss m, b.drop q)) := Lib.hid (by rw [HCR.out, HPS.out, Nat.sub_self]; simp [stepsR])
          obtain ⟨Bc, dc, rfl, hrdc⟩ := HOWC.out.form
          obtain ⟨B4, d4, rfl, _⟩ := HOWN.out.form
          have HIX : Hid (Inner w2 ⟨Bc, k, dc, m⟩) := Lib.hid ⟨⟨hrdc, HT.out⟩, own_lim HOWC.out⟩
          have HNX : Hid (OffC (.slice B4 i d4) ⟨Bc, k, dc, m⟩) := Lib.hid (New.off (w := w1) ⟨fun b' off' e hpos => by simp only at e; subst e; exact HOWC.out.base b' rfl, HNW.out⟩ HOWN.out.lt)
          have HIS : Hid (Inners w2 (M ++ [⟨Bc, k, dc, m⟩])) := Lib.hid ((HIN.out.below HOWC.out.2).app (Inners.one HIX.out))
          have HOS : Hid (OffL (.slice B4 i d4) (M ++ [⟨Bc, k, dc, m⟩])) := Lib.hid (HOF.out.app (OffL.one HNX.out))
          have HLS : Hid (LimC (M ++ [⟨Bc, k, dc, m⟩])) := Lib.hid (HLM.out.app (by intro x hx; rw [List.mem_singleton] at hx; subst hx; exact ⟨by show k ≤ 1000000; omega, HL.out⟩))
          have HP2 : Hid (codesR N (b.drop 1) = (cc (M ++ [⟨Bc, k, dc, m⟩]) ++ (codesR (N - (i + 1)) (b.drop q)).1, (codesR (N - (i + 1)) (b.drop q)).2)) := Lib.hid (by
            rw [HP.out, codes_more N i hlt, HCD.out, cc_app]; simp [cc])
          clear hrdc
          go_wp2_with (at_builtin; refine append_at rfl _ _ 31 rfl tRCodes w (.slice B4 i d4) i (hs M) rfl ((HOWN.out.below HOWC.out.2).alloc _) _ 1 1 (hs [⟨Bc, k, dc, m⟩]) rfl (Rd.built _ 1 1 (hs [⟨Bc, k, dc, m⟩]) _ rfl) (hs_one _) (by omega) (by omega) ?_; intro v6 w6 ho6 hg6 hat6; have HO6 := Lib.hid ho6; have HT6 := Lib.hid ((HIS.out.below (bl_alloc (Below.refl _ _) _)).grown HOS.out hg6); have HF6 := Lib.hid (OffL.grown (HIS.out.below (bl_alloc (Below.refl _ _) _)) HOS.out hat6); clear ho6 hg6 hat6)
          go_roundw
          case rel => exact ⟨i + 1, q, M ++ [⟨Bc, k, dc, m⟩], by omega, by go_num, rfl, by omega, by omega, by rw [hs_app]; exact HO6.out, HT6, HF6, HLS, HP2⟩
          case measure => simp [intOf]; omega
    · obtain rfl : i = N := by omega
      have HPR : Hid (parseS b = cc M) := Lib.hid (by unfold parseS; rw [HN.out, Int.toNat_natCast, HP.out, Nat.sub_self]; simp [codesR])
      obtain ⟨B4, d4, rfl, hrd4⟩ := HOWN.out.form
      have HCO : Hid (Codes w1 B4 i M) := Lib.hid ⟨hrd4, HIN.out⟩
      obtain ⟨r2, hr2⟩ : ∃ x, writeS (cc M) = x := ⟨_, rfl⟩
      have HR2 := Lib.hid hr2
      have HRV : Hid (r = if r2 = some b then some (cc M) else none) := Lib.hid (by rw [← HV.out]; unfold readS; rw [HPR.out, hr2])
      clear hrd4 hr2
      go_wp2_with (go_at_call 31; refine (HAT0.out _ HOWN.out.2 0 (by omega) _ rfl).mono ?_; rw [HH0.out]; rintro e w' ⟨rfl, rfl⟩)
      refine (refwrite M _ _ _ _ r2 HCO.out HLM.out (by omega) HR2.out).mono ?_
      rintro e w2 ⟨BW, dw, qw, rfl, hqw, hrw, b2⟩
      have HB2 := Lib.hid (bl_trans HOWN.out.2 b2)
      have HC2 := Lib.hid (HCO.out.below b2)
      clear b2
      cases r2 with
      | none =>
        have HF : Hid (r = none) := Lib.hid (by rw [HRV.out]; rfl)
        clear hqw hrw
        go_wp2
        go_ret2
        exact ⟨none, 0, 0, [], by rw [HF.out]; rfl, Codes.none_, by rw [HF.out]; rfl, LimC.nil_, HB2.out⟩
      | some x =>
        have k1 := run_str (P := Try.prog) (c := dw) hrw 25 5 9 Try.underlying25 Try.underlying5 Try.underlying9
        have k2 := run_str (P := Try.prog) (c := c) (HR.out.below HB2.out) 25 5 9 Try.underlying25 Try.underlying5 Try.underlying9
        simp only [Option.getD_some] at k1
        have HBX : Hid (BB x) := Lib.hid (write_bb HR2.out)
        clear hqw hrw
        by_cases hxb : x = b
        · subst hxb
          have HF : Hid (r = some (cc M)) := Lib.hid (by rw [HRV.out, if_pos rfl])
          go_wp2
          go_ret2
          exact ⟨B4, d4, i, M, by rw [HF.out]; rfl, HC2.out, by rw [HF.out]; rfl, HLM.out, HB2.out⟩
        · have HF : Hid (r = none) := Lib.hid (by rw [HRV.out, if_neg (by simpa using hxb)])
          have hne := str_ne HBX.out HB.out hxb
          clear hxb
          go_wp2
          go_ret2
          exact ⟨none, 0, 0, [], by rw [HF.out]; rfl, Codes.none_, by rw [HF.out]; rfl, LimC.nil_, HB2.out⟩
end Go.Proofs.Ytilfkohckmknkaa.Shape
