/-
  WHAT THE DOCUMENT'S ANSWER FOR LAYER 5 RETURNS: Add, Cells.
-/
import Derived.Test.YtemfkjcfafenjaaReadsRef2
import Derived.Test.YtemfkjcfafenjaaNumbers
namespace Go.Proofs.Ytemfkjcfafenjaa.Reads
open Go.ChangeShapes Go.WideShapes Go.ChangeAt Go.RowKit Mem

theorem refadd (l : List Read) (A : Option Addr) (n c : Nat) (cl vr vl : Int) (w : World) (a : List Read × Int) (m : Nat) (hr : Rd w 3 A n (ds l)) (hn : n ≤ 1000000)
    (ha : addS l ⟨cl, vr, vl⟩ = a) (hm : a.1.length = m) :
    Calls Try.prog 11 #[.slice A n c, .agg #[.int .i64 cl, .int .i64 vr, .int .i64 vl]] w (RetSE w 3 m (ds a.1) a.2) := by
  have HA := Lib.hid ha
  have HQ := Lib.hid hm
  have HL := Lib.hid (ds_len hr)
  have HR := Lib.hid hr
  clear hr ha hm
  go_enter Try.func11, Try.ntmps11
  go_wp2_with fail
  have HB1 : Hid (Below w.heap.size w (w.alloc (.cells #[.int .i64 cl, .int .i64 vr, .int .i64 vl] 24))) := Lib.hid (bl_alloc (Below.refl _ _) _)
  have HP0 : Hid (Blk (w.alloc (.cells #[.int .i64 cl, .int .i64 vr, .int .i64 vl] 24)) w.heap.size 24 #[.int .i64 cl, .int .i64 vr, .int .i64 vl]) := Lib.hid (Blk.new _ _ _)
  generalize w.alloc (.cells #[.int .i64 cl, .int .i64 vr, .int .i64 vl] 24) = w1 at *
  generalize hg : w.heap.size = g at *
  have HG : Hid (w.heap.size = g) := Lib.hid hg
  clear hg
  have hc0 : ∀ q os, (Sort.grow (w1.drewN q) os).cell? ⟨g, 0, none⟩ = some (.int .i64 cl) := fun q os => (HP0.out.below (Grew.below ⟨q, os, rfl⟩)).cell 0 _ rfl
  have hc1 : ∀ q os, (Sort.grow (w1.drewN q) os).cell? ⟨g, 1, none⟩ = some (.int .i64 vr) := fun q os => (HP0.out.below (Grew.below ⟨q, os, rfl⟩)).cell 1 _ rfl
  have hc2 : ∀ q os, (Sort.grow (w1.drewN q) os).cell? ⟨g, 2, none⟩ = some (.int .i64 vl) := fun q os => (HP0.out.below (Grew.below ⟨q, os, rfl⟩)).cell 2 _ rfl
  have HRR : Hid (∀ q os, Rd (Sort.grow (w1.drewN q) os) 3 A n (ds l)) := Lib.hid (fun q os => HR.out.below (by have := HB1.out; rw [← HG.out] at this; exact bl_trans this (Grew.below ⟨q, os, rfl⟩)))
  have hmix : Try.prog.follows .mixedOrders = true := by kernel_rfl
  cases h1 : rightB l
  all_goals cases h2 : oneB ⟨cl, vr, vl⟩
  all_goals
    have H1 := Lib.hid h1
    have H2 := Lib.hid h2
    clear h1 h2
    go_quiet_grown (first
      | (go_at_call 13; refine Calls.grown_of (right_g l _ _ _ _ _ (HRR.out _ _) hn H1.out))
      | (go_at_call 30; refine Calls.grown_of (one_g _ _ _ _ _ H2.out)))
    have HG2 : Hid (Grew w1 (Sort.grow (w1.drewN nq) osq)) := Lib.hid ⟨nq, osq, rfl⟩
    have HR2 := Lib.hid (HRR.out nq osq)
    clear hc0 hc1 hc2 HRR
    generalize Sort.grow (w1.drewN nq) osq = w2 at *
    have HB2 : Hid (Below w.heap.size w w2) := Lib.hid (by
      have := HB1.out
      rw [← HG.out] at this
      exact bl_trans this HG2.out.below)
  case true.true =>
    have HY : Hid ((rightB l && oneB ⟨cl, vr, vl⟩) = true) := Lib.hid (by rw [H1.out, H2.out]; rfl)
    have HB0 : Hid (∀ w3, Grew w1 w3 → Below w.heap.size w w3) := Lib.hid (fun w3 h => by
      have := HB1.out
      rw [← HG.out] at this
      exact bl_trans this h.below)
    go_wp2
    go_loopw [8] (fun i wr => ∃ k : Nat, k ≤ n ∧ i = .int .i64 k ∧ Hid (Grew w1 wr) ∧ Hid (hasB (l.take k) cl = false)) (fun i _ => n - (intOf i).toNat)
    case atStart => exact ⟨0, Nat.zero_le _, rfl, HG2, Lib.hid rfl⟩
    case round =>
      obtain ⟨k, hk, rfl, HG3, hno⟩ := hrel
      have HB3 := Lib.hid (HB0.out wr HG3.out)
      have p0 := (HP0.out.below HG3.out.below).cell 0 _ rfl
      have p1 := (HP0.out.below HG3.out.below).cell 1 _ rfl
      have p2 := (HP0.out.below HG3.out.below).cell 2 _ rfl
      by_cases hlt : k < n
      · obtain ⟨b, off, ⟨cl2, vr2, vl2⟩, rfl, hx, c0, c1, c2⟩ := at_read (HR.out.below HB3.out) k hlt
        have hs := Lib.hid (has_take l k _ cl hx)
        have HX := Lib.hid hx
        clear hx
        by_cases heq : cl2 = cl
        · subst heq
          have HFD := Lib.hid (find_at l k _ cl2 HX.out rfl hno.out)
          by_cases h3 : vr2 = vr
          · subst h3
            by_cases h4 : vl2 = vl
            · subst h4
              have HF : Hid (a = (l, 0)) := Lib.hid (by rw [← HA.out]; exact add_had _ _ HY.out HFD.out)
              have HN : Hid (m = n) := Lib.hid (by rw [← HQ.out, HF.out]; exact HL.out)
              obtain rfl := HN.out
              go_wp2_with fail
              go_quiet (fail)
              go_wp2_with fail
              go_quiet (fail)
              go_wp2
              go_ret2
              exact ⟨_, c, by rw [HF.out]; rfl, by rw [HF.out]; first | exact ((HR.out.below HB3.out).drewN _).drewN _ | exact (HR.out.below HB3.out).drewN _, by first | exact bl_drewN (bl_drewN HB3.out _) _ | exact bl_drewN HB3.out _⟩
            · have HF : Hid (a = (l, 8)) := Lib.hid (by rw [← HA.out]; exact add_stale _ _ _ HY.out HFD.out (by intro e; injection e with _ _ e; exact h4 e))
              have HN : Hid (m = n) := Lib.hid (by rw [← HQ.out, HF.out]; exact HL.out)
              obtain rfl := HN.out
              have h5 : (vl2 == vl) = false := beq_eq_false_iff_ne.2 h4
              clear h4
              go_wp2_with fail
              go_quiet (fail)
              go_wp2_with fail
              go_quiet (fail)
              go_wp2
              go_ret2
              exact ⟨_, c, by rw [HF.out]; rfl, by rw [HF.out]; first | exact ((HR.out.below HB3.out).drewN _).drewN _ | exact (HR.out.below HB3.out).drewN _, by first | exact bl_drewN (bl_drewN HB3.out _) _ | exact bl_drewN HB3.out _⟩
          · have HF : Hid (a = (l, 8)) := Lib.hid (by rw [← HA.out]; exact add_stale _ _ _ HY.out HFD.out (by intro e; injection e with _ e _; exact h3 e))
            have HN : Hid (m = n) := Lib.hid (by rw [← HQ.out, HF.out]; exact HL.out)
            obtain rfl := HN.out
            have h5 : (vr2 == vr) = false := beq_eq_false_iff_ne.2 h3
            clear h3
            go_wp2_with fail
            go_quiet (fail)
            go_wp2_with fail
            go_quiet (fail)
            go_wp2
            go_ret2
            exact ⟨_, c, by rw [HF.out]; rfl, by rw [HF.out]; first | exact ((HR.out.below HB3.out).drewN _).drewN _ | exact (HR.out.below HB3.out).drewN _, by first | exact bl_drewN (bl_drewN HB3.out _) _ | exact bl_drewN HB3.out _⟩
        · have t1 : (cl2 == cl) = false := beq_eq_false_iff_ne.2 heq
          clear heq
          go_wp2_with fail
          go_quiet (fail)
          go_wp2
          go_roundw
          case rel => exact ⟨k + 1, by omega, by go_num, Lib.hid (HG3.out.drewN _), Lib.hid (by rw [hs.out, hno.out, t1]; rfl)⟩
          case measure => simp [intOf]; omega
      · have HFD : Hid (findS l cl = none) := Lib.hid (find_none l cl (by
          have := hno.out
          rwa [List.take_of_length_le (by rw [HL.out]; omega)] at this))
        by_cases h24 : 23 < n
        · have HF : Hid (a = (l, 5)) := Lib.hid (by rw [← HA.out]; exact add_big _ _ HY.out HFD.out (by have := right_len l H1.out; have := HL.out; omega))
          have HN : Hid (m = n) := Lib.hid (by rw [← HQ.out, HF.out]; exact HL.out)
          obtain rfl := HN.out
          go_wp2
          go_ret2
          exact ⟨A, c, by rw [HF.out]; rfl, by rw [HF.out]; exact HR.out.below HB3.out, HB3.out⟩
        · have HF : Hid (a = (l ++ [⟨cl, vr, vl⟩], 0)) := Lib.hid (by rw [← HA.out]; exact add_new _ _ HY.out HFD.out (by have := HL.out; omega))
          have HN : Hid (m = n + 1) := Lib.hid (by rw [← HQ.out, HF.out]; simp [HL.out])
          obtain rfl := HN.out
          go_wp2_with (first
            | (at_builtin; refine append_rd rfl (.tmp 59) (.tmp 60) 22 rfl tRead wr _ 0 [] rfl (Own.nil_ (Below.refl _ _)) _ n c (ds l) rfl (HR.out.below HB3.out) (ds_one l) (by omega) (by omega) ?_; intro v1 w5 hown1 hg1; have q0 := (hown1.2.cell (cell_lt p0)).trans p0; have q1 := (hown1.2.cell (cell_lt p1)).trans p1; have q2 := (hown1.2.cell (cell_lt p2)).trans p2; clear hg1)
            | (at_builtin; refine append_rd rfl (.tmp 62) (.tmp 64) 22 rfl tRead wr _ _ _ rfl (hown1.alloc _) _ 1 1 (dc ⟨cl, vr, vl⟩) rfl (Rd.built _ 3 1 (dc ⟨cl, vr, vl⟩) _ rfl) (dc_one _) (by omega) (by omega) ?_; intro v2 w6 hown2 hg2; clear hg2))
          rw [Nat.zero_add] at hown2
          obtain ⟨B, d, rfl, hrd⟩ := hown2.form
          go_ret2
          exact ⟨B, d, by rw [HF.out]; rfl, by rw [HF.out, ds_app]; simpa [ds] using hrd, bl_trans HB3.out hown2.2⟩
  all_goals
    have HF : Hid (a = (l, 1)) := Lib.hid (by rw [← HA.out]; exact add_no _ _ (by rw [H1.out, H2.out]; rfl))
    have HN : Hid (m = n) := Lib.hid (by rw [← HQ.out, HF.out]; exact HL.out)
    obtain rfl := HN.out
    go_wp2
    go_ret2
    exact ⟨A, c, by rw [HF.out]; rfl, by rw [HF.out]; exact HR2.out, HB2.out⟩

def lenV : Value → Nat
  | .slice _ n _ => n
  | _ => 0
theorem refcells (l : List Read) (A : Option Addr) (n c : Nat) (w : World) (s : List Int) (hr : Rd w 3 A n (ds l)) (hn : n ≤ 1000000) (hok : rightB l = true) (hs : sortZ (l.map Read.cell) = s) :
    Calls Try.prog 15 #[.slice A n c] w (RetS w 1 n (zs s)) := by
  have HS := Lib.hid hs
  have HOK := Lib.hid hok
  have HL := Lib.hid (ds_len hr)
  have HR := Lib.hid hr
  have HSL : Hid (s.length = n) := Lib.hid (by rw [← HS.out, sort_len, List.length_map]; exact HL.out)
  clear hr hs hok
  go_enter Try.func15, Try.ntmps15
  go_wp2
  go_loopw [3, 4] (fun v la wr => ∃ j : Nat, j ≤ n ∧ Own w wr 3 1 v j (zs (s.take j)) ∧ la = .int .i64 (lastOf s j)) (fun v _ _ => n - lenV v)
  case atStart => exact ⟨0, Nat.zero_le _, Own.nil_ (Below.refl _ _), rfl⟩
  case round =>
    obtain ⟨j, hj, hown, rfl⟩ := hrel
    generalize wr = w2 at *
    obtain ⟨B, d, rfl, hrd⟩ := hown.form
    have HO := Lib.hid hown
    have HRD := Lib.hid hrd
    clear hown hrd
    obtain ⟨la, hla⟩ : ∃ la, lastOf s j = la := ⟨_, rfl⟩
    rw [hla]
    have HLA := Lib.hid hla
    clear hla
    go_wp2
    go_loop [5, 6] (fun bv i => ∃ (k : Nat) (bz : Int), k ≤ n ∧ i = .int .i64 k ∧ bv = .int .i64 bz ∧ Hid (Least l k la bz)) (fun _ i => n - (intOf i).toNat)
    case atStart => exact ⟨0, -1, Nat.zero_le _, rfl, rfl, Lib.hid (least_0 l la)⟩
    case round =>
      obtain ⟨k, bz, hk, rfl, rfl, HLE⟩ := hrel
      by_cases hlt : k < n
      · obtain ⟨b, off, ⟨cl, vr, vl⟩, rfl, hx, c0, c1, c2⟩ := at_read (HR.out.below HO.out.2) k hlt
        have hc0 : 0 ≤ cl := one_cell _ (right_one l HOK.out _ (List.mem_of_getElem? hx))
        have HX := Lib.hid hx
        clear hx c1 c2
        by_cases t1 : la < cl
        · by_cases t2 : bz < 0
          · have HN := Lib.hid (least_take l k la bz _ HX.out hc0 HLE.out t1 (.inl t2))
            go_wp2
            go_round
            case rel => exact ⟨k + 1, cl, by omega, by go_num, rfl, HN⟩
            case measure => simp [intOf]; omega
          · by_cases t3 : cl < bz
            · have HN := Lib.hid (least_take l k la bz _ HX.out hc0 HLE.out t1 (.inr t3))
              go_wp2
              go_round
              case rel => exact ⟨k + 1, cl, by omega, by go_num, rfl, HN⟩
              case measure => simp [intOf]; omega
            · have HN := Lib.hid (least_skip l k la bz _ HX.out HLE.out (.inr (by show 0 ≤ bz ∧ bz ≤ cl; omega)))
              go_wp2
              go_round
              case rel => exact ⟨k + 1, bz, by omega, by go_num, rfl, HN⟩
              case measure => simp [intOf]; omega
        · have HN := Lib.hid (least_skip l k la bz _ HX.out HLE.out (.inl (by show cl ≤ la; omega)))
          go_wp2
          go_round
          case rel => exact ⟨k + 1, bz, by omega, by go_num, rfl, HN⟩
          case measure => simp [intOf]; omega
      · have hkn : k = n := by omega
        have hend := least_end l j bz HOK.out (by rw [HL.out]; exact hj) (by rw [HS.out, HLA.out, HL.out, ← hkn]; exact HLE.out)
        rw [HS.out, HL.out] at hend
        clear hkn
        rcases hend with ⟨rfl, rfl⟩ | ⟨hb0, hb⟩
        · go_wp2
          go_ret
          exact ⟨B, d, rfl, by have := HRD.out; rwa [List.take_of_length_le (by rw [HSL.out]; exact Nat.le_refl _)] at this, HO.out.2⟩
        · have HT := Lib.hid (zs_take s j bz hb)
          have HLS := Lib.hid (last_succ s j bz hb)
          have hjn : j < n := by have := (List.getElem?_eq_some_iff.1 hb).1; have := HSL.out; omega
          clear hb
          go_wp2_with (at_builtin; refine append_rd rfl _ _ 35 rfl tInt w _ _ _ rfl (HO.out.alloc _) _ 1 1 [.int .i64 bz] rfl (Rd.built _ 1 1 [.int .i64 bz] _ rfl) (one_cons rfl one_nil) (by omega) (by omega) ?_; intro v' w' hown' hg; clear hg)
          obtain ⟨B', d', rfl, -⟩ := hown'.form
          go_roundw
          case rel => exact ⟨j + 1, by omega, by rw [HT.out]; exact hown', by rw [HLS.out]⟩
          case measure => simp [lenV]; omega
end Go.Proofs.Ytemfkjcfafenjaa.Reads
