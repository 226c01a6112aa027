/-
  THE WALK OF THE LAW TermRegs.
-/
import Derived.Test.YtcdcikjkpbcjgaaTermLaw
import Derived.Test.YtcdcikjkpbcjgaaTermMore
import Derived.Test.YtcdcikjkpbcjgaaInts
namespace Go.Proofs.Ytcdcikjkpbcjgaa.Term
open Go.ChangeShapes Go.WideShapes Go.ChangeAt Go.RowKit Mem

set_option maxRecDepth 100000 in
set_option maxHeartbeats 2000000 in
theorem regs_walk (A : Option Addr) (n c : Nat) (l : List Op) (D : Option Addr) (m d : Nat) (h : List Heap.Cell) (E : Option Addr) (x y : Nat) (rg : List Int) (at_ va : Int) (w : World) (mn : n ≤ 9223372036854775807) (hr : Rd w 2 A n (ops l)) (mm : m ≤ 9223372036854775807) (hh : Rd w 2 D m (Heap.cs h)) (mx : x ≤ 9223372036854775807) (hg : Rd w 1 E x (zs rg)) (hat : 0 ≤ at_ ∧ at_ ≤ 255) (hfit : ∀ z ∈ rg, Mem.Fits z) (_hva : -9223372036854775808 ≤ va ∧ va ≤ 9223372036854775807) :
    Calls Try.prog 7 #[.slice A n c, .slice D m d, .slice E x y, .int .u8 at_, .int .i64 va] w (RetB w true) := by
  have HL := Lib.hid (ops_len hr)
  have HR := Lib.hid hr
  have HH := Lib.hid hh
  have HG := Lib.hid hg
  clear hr hh hg
  by_cases h1 : 12 < n
  · go_enter Try.func7, Try.ntmps7
    go_wp2_with fail
    refine (awake_any _).mono ?_
    rintro e v1 ⟨rfl, b1⟩
    go_wp2
    go_ret
    exact ⟨rfl, b1⟩
  by_cases h2 : 64 < m
  · go_enter Try.func7, Try.ntmps7
    go_wp2_with fail
    refine (awake_any _).mono ?_
    rintro e v1 ⟨rfl, b1⟩
    go_wp2
    go_ret
    exact ⟨rfl, b1⟩
  by_cases h3 : 8 < x
  · go_enter Try.func7, Try.ntmps7
    go_wp2_with fail
    refine (awake_any _).mono ?_
    rintro e v1 ⟨rfl, b1⟩
    go_wp2
    go_ret
    exact ⟨rfl, b1⟩
  by_cases h0 : x = 0
  · subst h0
    go_enter Try.func7, Try.ntmps7
    go_wp2_with fail
    refine (awake_any _).mono ?_
    rintro e v1 ⟨rfl, b1⟩
    go_wp2
    go_ret
    exact ⟨rfl, b1⟩
  obtain ⟨at0, at1⟩ := hat
  obtain ⟨an, rfl⟩ := Int.eq_ofNat_of_zero_le at0
  obtain ⟨k, hk⟩ : ∃ k : Nat, an % x = k := ⟨_, rfl⟩
  have hki : (an : Int) % (x : Int) = (k : Int) := by rw [← hk]; rfl
  have hkx : k < x := by rw [← hk]; exact Nat.mod_lt _ (by omega)
  have hn0 : (x == 0) = false := beq_eq_false_iff_ne.2 h0
  have hm0 : ((x : Int) == 0) = false := by simpa using h0
  obtain ⟨b0, off0, z, rfl, hz, c0⟩ := at_z HG.out k hkx
  obtain ⟨zf1, zf2⟩ : Mem.Fits z := hfit z (List.mem_of_getElem? hz)
  have HZ := Lib.hid hz
  have HC0 := Lib.hid c0
  obtain ⟨⟨v, e0⟩, hev⟩ : ∃ a, evalS l h rg = a := ⟨_, rfl⟩
  have HE := Lib.hid hev
  have q1 : (v == v) = true := by simp
  have q2 : (e0 == e0) = true := by simp
  have bb : Hid (Below w.heap.size w w) := Lib.hid (Below.refl _ _)
  clear hev hk hz at0 hfit c0
  go_enter Try.func7, Try.ntmps7
  go_wp2
  go_loopw [12, 46] (fun bv i wr => ∃ j : Nat, j ≤ n ∧ i = .int .i64 j ∧ bv = .bool (regsB (l.take j) k) ∧ Hid (Below w.heap.size w wr)) (fun _ i _ => n - (intOf i).toNat)
  case atStart => exact ⟨0, Nat.zero_le _, rfl, rfl, bb⟩
  case round =>
    obtain ⟨j, hj, rfl, rfl, bb⟩ := hrel
    generalize wr = w1 at *
    by_cases hlt : j < n
    · obtain ⟨b, off, ⟨kd, nn⟩, rfl, hx, c0, c1⟩ := at_op (HR.out.below bb.out) j hlt
      have hs := Lib.hid (take_any l (fun o => decide (o.kind = 3) && decide (o.n = (k : Int))) j _ hx)
      have HB5 := Lib.hid (bl_alloc bb.out (.cells #[.int .i64 kd, .int .i64 nn] 44))
      clear hx
      cases hb : regsB (l.take j) k with
      | true =>
        have HN : Hid (regsB (l.take (j + 1)) k = true) := Lib.hid (by unfold regsB at hb ⊢; rw [hs.out, hb]; rfl)
        clear hb hs
        go_wp2
        go_roundw
        case rel => exact ⟨j + 1, by omega, by go_num, by rw [HN.out], HB5⟩
        case measure => simp [intOf]; omega
      | false =>
        by_cases e3 : kd = 3
        · subst e3
          cases e4 : (nn == (k : Int))
          all_goals
            have HE4 := Lib.hid e4
            have HN : Hid (regsB (l.take (j + 1)) k = (nn == (k : Int))) := Lib.hid (by unfold regsB at hb ⊢; rw [hs.out, hb]; rfl)
            clear hs hb
            go_wp2
            go_roundw
            case rel => exact ⟨j + 1, by omega, by go_num, by rw [HN.out, HE4.out], HB5⟩
            case measure => simp [intOf]; omega
        · have e5 : (kd == 3) = false := beq_eq_false_iff_ne.2 e3
          have HN : Hid (regsB (l.take (j + 1)) k = false) := Lib.hid (by unfold regsB at hb ⊢; rw [hs.out, hb]; simp [e3])
          clear hs hb e3
          go_wp2
          go_roundw
          case rel => exact ⟨j + 1, by omega, by go_num, by rw [HN.out], HB5⟩
          case measure => simp [intOf]; omega
    · have HT : Hid (l.take j = l) := Lib.hid (List.take_of_length_le (by rw [HL.out]; omega))
      rw [HT.out]
      cases hb : regsB l k with
      | false =>
        have HE2 : Hid (evalS l h (rg.set k va) = (v, e0)) := Lib.hid (by rw [← HE.out]; exact regs_other l h rg k _ z HZ.out (fun h9 => by rw [hb] at h9; cases h9))
        clear hb
        go_wp2_with fail
        refine (eval_c l h rg _ _ _ _ _ _ _ _ _ _ (v, e0) (HR.out.below bb.out) (HH.out.below bb.out) (HG.out.below bb.out) (by omega) (by omega) HE.out).mono ?_
        rintro e w2 ⟨rfl, b_⟩
        replace bb := Lib.hid (bl_trans bb.out b_)
        clear b_
        have cz0 := (bb.out.cell (cell_lt HC0.out)).trans HC0.out
        have hlx : (zs rg).length = x := by have := HG.out.1; omega
        have HZX := Lib.hid (show (zs rg)[k]? = some (.int .i64 z) by rw [zs_map, List.getElem?_map, HZ.out]; rfl)
        clear hlx
        go_wp2_with (at_builtin; refine append_rd rfl _ _ 24 rfl Mem.tInt w2 _ 0 [] rfl (Own.empty _ _ _) _ x y (zs rg) rfl ((HG.out.below bb.out).alloc _) (zs_one rg) (by omega) (by omega) ?_; intro v' w' hown' hg'; clear hg'; have HOW := own_zero hown'; clear hown'; obtain ⟨gb, cap, rfl⟩ := own_lay HOW (by omega); have f0 := HOW.1.frozenAt k; have d0 := (HOW.1.cellAt k (by omega)).trans HZX.out; have HOW2 := Lib.hid HOW; clear HOW)
        have HO5 := Lib.hid (own_set HOW2.out k (.int .i64 va))
        rw [show (zs rg).set k (.int .i64 va) = zs (rg.set k va) by rw [zs_map, zs_map, List.map_set]] at HO5
        clear f0 d0 HOW2
        generalize w'.setCell ⟨gb, k, none⟩ (.int .i64 va) = w9 at *
        replace bb := Lib.hid (bl_trans bb.out HO5.out.2)
        have RG := Lib.hid (own_rd HO5.out)
        clear HO5 cz0
        refine (eval_c l h (rg.set k va) _ _ _ _ _ _ _ _ _ _ (v, e0) (HR.out.below bb.out) (HH.out.below bb.out) (RG.out) (by omega) (by omega) HE2.out).mono ?_
        rintro e w3 ⟨rfl, b_⟩
        clear RG
        replace bb := Lib.hid (bl_trans bb.out b_)
        clear b_
        go_wp2_with fail
        refine (awake_any _).mono ?_
        rintro e w4 ⟨rfl, b_⟩
        replace bb := Lib.hid (bl_trans bb.out b_)
        clear b_
        go_wp2
        go_ret
        exact ⟨rfl, bb.out⟩
      | true =>
        have HE2 : Hid (evalS l h (rg.set k (Span.sw z)) = (v, e0)) := Lib.hid (by rw [← HE.out]; exact regs_other l h rg k _ z HZ.out (fun _ => rfl))
        clear hb
        go_wp2_with fail
        refine (eval_c l h rg _ _ _ _ _ _ _ _ _ _ (v, e0) (HR.out.below bb.out) (HH.out.below bb.out) (HG.out.below bb.out) (by omega) (by omega) HE.out).mono ?_
        rintro e w2 ⟨rfl, b_⟩
        replace bb := Lib.hid (bl_trans bb.out b_)
        clear b_
        have cz0 := (bb.out.cell (cell_lt HC0.out)).trans HC0.out
        have hlx : (zs rg).length = x := by have := HG.out.1; omega
        have HZX := Lib.hid (show (zs rg)[k]? = some (.int .i64 z) by rw [zs_map, List.getElem?_map, HZ.out]; rfl)
        clear hlx
        go_wp2_with (first | (at_builtin; refine append_rd rfl _ _ 24 rfl Mem.tInt w2 _ 0 [] rfl (Own.empty _ _ _) _ x y (zs rg) rfl ((HG.out.below bb.out).alloc _) (zs_one rg) (by omega) (by omega) ?_; intro v' w' hown' hg'; clear hg'; have HOW := own_zero hown'; clear hown'; obtain ⟨gb, cap, rfl⟩ := own_lay HOW (by omega); have f0 := HOW.1.frozenAt k; have d0 := (HOW.1.cellAt k (by omega)).trans HZX.out; have HOW2 := Lib.hid HOW; clear HOW; have HO3 := Lib.hid (own_set HOW2.out k (.int .i64 va)); have f2 := HO3.out.1.frozenAt k; have d2 : (w'.setCell ⟨gb, k, none⟩ (.int .i64 va)).cell? ⟨gb, k, none⟩ = some (.int .i64 va) := (HO3.out.1.cellAt k (by omega)).trans (by rw [List.getElem?_set_self (by have := (List.getElem?_eq_some_iff.1 HZX.out).1; exact this)]); have cz2 : (w'.setCell ⟨gb, k, none⟩ (.int .i64 va)).cell? ⟨b0, off0 + k, none⟩ = some (.int .i64 z) := (HO3.out.2.cell (cell_lt cz0)).trans cz0) | (go_at_call 20; refine (Span.wrap_any _ _).mono ?_; rintro e w8 ⟨rfl, rfl⟩))
        have HO5 := Lib.hid (own_set HO3.out k (.int .i64 (Span.sw z)))
        rw [show ((zs rg).set k (.int .i64 va)).set k (.int .i64 (Span.sw z)) = zs (rg.set k (Span.sw z)) by rw [List.set_set, zs_map, zs_map, List.map_set]] at HO5
        clear f0 d0 HOW2 HO3 f2 d2 cz2
        generalize (w'.setCell ⟨gb, k, none⟩ (.int .i64 va)).setCell ⟨gb, k, none⟩ (.int .i64 (Span.sw z)) = w9 at *
        replace bb := Lib.hid (bl_trans bb.out HO5.out.2)
        have RG := Lib.hid (own_rd HO5.out)
        clear HO5 cz0
        refine (eval_c l h (rg.set k (Span.sw z)) _ _ _ _ _ _ _ _ _ _ (v, e0) (HR.out.below bb.out) (HH.out.below bb.out) (RG.out) (by omega) (by omega) HE2.out).mono ?_
        rintro e w3 ⟨rfl, b_⟩
        clear RG
        replace bb := Lib.hid (bl_trans bb.out b_)
        clear b_
        go_wp2_with fail
        refine (awake_any _).mono ?_
        rintro e w4 ⟨rfl, b_⟩
        replace bb := Lib.hid (bl_trans bb.out b_)
        clear b_
        go_wp2
        go_ret
        exact ⟨rfl, bb.out⟩
end Go.Proofs.Ytcdcikjkpbcjgaa.Term
