/-
  THE WALK OF THE LAW SleepOrder.
-/
import Derived.Test.YtakdeagaldnelaaSleepTwiceW
import Derived.Test.YtakdeagaldnelaaSleepNew
import Derived.Test.YtakdeagaldnelaaReadsMore3
namespace Go.Proofs.Ytakdeagaldnelaa.Sleep
open Go.ChangeShapes Go.WideShapes Go.ChangeAt Go.RowKit Mem
open Heap (Write)
open Reads (place)

theorem who_uniq (L : List Sl) (h : rightB L = true) (x y : Sl) (hx : x ∈ L) (hy : y ∈ L) (e : x.who = y.who) : x = y := by
  obtain ⟨i, hi, rfl⟩ := List.getElem_of_mem hx
  obtain ⟨j, hj, rfl⟩ := List.getElem_of_mem hy
  rcases Nat.lt_trichotomy i j with h1 | h1 | h1
  · have := right_at L h i j h1 _ _ (List.getElem?_eq_getElem hi) (List.getElem?_eq_getElem hj); omega
  · subst h1; rfl
  · have := right_at L h j i h1 _ _ (List.getElem?_eq_getElem hj) (List.getElem?_eq_getElem hi); omega
theorem right_pw (L : List Sl) (h : rightB L = true) : L.Pairwise (fun a b => a.who < b.who) := by
  have h1 := right_up L h
  unfold upB whos at h1
  rw [decide_eq_true_eq, List.pairwise_map] at h1
  exact h1
theorem up_eq (R S : List Sl) (hR : rightB R = true) (hS : rightB S = true) (h : ∀ x, x ∈ R ↔ x ∈ S) : R = S := by
  have h1 := right_pw R hR
  have h2 := right_pw S hS
  refine List.Perm.eq_of_pairwise (le := fun a b => a.who ≤ b.who) (fun a b ha hb h3 h4 => who_uniq R hR a b ha ((h b).2 hb) (Int.le_antisymm h3 h4)) (h1.imp Int.le_of_lt) (h2.imp Int.le_of_lt) ?_
  exact (List.perm_ext_iff_of_nodup (h1.imp (fun h e => by rw [e] at h; omega)) (h2.imp (fun h e => by rw [e] at h; omega))).2 h
theorem ins_mem (L : List Sl) (s x : Sl) : x ∈ insS L s ↔ x ∈ L ∨ x = s := by
  unfold insS
  rw [List.mem_append, List.mem_cons, List.mem_filter, List.mem_filter]
  constructor
  · rintro (⟨h, -⟩ | h | ⟨h, -⟩)
    · exact .inl h
    · exact .inr h
    · exact .inl h
  · rintro (h | h)
    · by_cases hd : x.who < s.who
      · exact .inl ⟨h, by simpa using hd⟩
      · exact .inr (.inr ⟨h, by simpa using hd⟩)
    · exact .inr (.inl h)
def tS (S : List Sl) (b i : Nat) : List Sl := (List.range i).map (fun j => S.getD (place S.length b j) zero)
theorem ts_succ (S : List Sl) (b i : Nat) (x : Sl) (hx : S[place S.length b i]? = some x) : tS S b (i + 1) = tS S b i ++ [x] := by
  unfold tS; rw [List.range_succ, List.map_append]
  simp only [List.map_cons, List.map_nil, List.getD_eq_getElem?_getD, hx, Option.getD_some]
theorem ts_len (S : List Sl) (b i : Nat) : (tS S b i).length = i := by unfold tS; simp
theorem ts_take (S : List Sl) (b i j : Nat) (h : j ≤ i) : (tS S b i).take j = tS S b j := by
  unfold tS; rw [← List.map_take, List.take_range, Nat.min_eq_left h]
theorem ts_at (S : List Sl) (b j : Nat) (hj : j < S.length) : ∃ h : place S.length b j < S.length, S.getD (place S.length b j) zero = S[place S.length b j] :=
  ⟨Reads.place_lt _ _ _ hj, by rw [List.getD_eq_getElem?_getD, List.getElem?_eq_getElem (Reads.place_lt _ _ _ hj)]; rfl⟩
theorem ts_nodup (S : List Sl) (b : Nat) (h : rightB S = true) : ((tS S b S.length).map Sl.who).Nodup := by
  unfold tS List.Nodup
  rw [List.map_map, List.pairwise_map]
  refine List.Pairwise.imp_of_mem ?_ List.pairwise_lt_range
  intro i j hi hj hij he
  have hi' := List.mem_range.1 hi
  have hj' := List.mem_range.1 hj
  obtain ⟨h1, e1⟩ := ts_at S b i hi'
  obtain ⟨h2, e2⟩ := ts_at S b j hj'
  simp only [Function.comp] at he
  rw [e1, e2] at he
  have h3 : place S.length b i = place S.length b j := by
    rcases Nat.lt_trichotomy (place S.length b i) (place S.length b j) with h4 | h4 | h4
    · have := right_at S h _ _ h4 _ _ (List.getElem?_eq_getElem h1) (List.getElem?_eq_getElem h2); omega
    · exact h4
    · have := right_at S h _ _ h4 _ _ (List.getElem?_eq_getElem h2) (List.getElem?_eq_getElem h1); omega
  have h5 := Reads.place_place S.length b i hi'
  rw [h3, Reads.place_place S.length b j hj'] at h5
  omega
theorem ts_mem (S : List Sl) (b : Nat) (x : Sl) : x ∈ tS S b S.length ↔ x ∈ S := by
  unfold tS
  rw [List.mem_map]
  constructor
  · rintro ⟨j, hj, rfl⟩
    obtain ⟨h1, e1⟩ := ts_at S b j (List.mem_range.1 hj)
    rw [e1]; exact List.getElem_mem _
  · intro hx
    obtain ⟨i, hi, rfl⟩ := List.getElem_of_mem hx
    refine ⟨place S.length b i, List.mem_range.2 (Reads.place_lt _ _ _ hi), ?_⟩
    obtain ⟨h1, e1⟩ := ts_at S b _ (Reads.place_lt S.length b i hi)
    rw [e1]
    congr 1
    exact Reads.place_place S.length b i hi
theorem ts_new (S : List Sl) (b j : Nat) (h : rightB S = true) (hj : j < S.length) (x : Sl) (hx : S[place S.length b j]? = some x) (R : List Sl) (hm : ∀ y, y ∈ R ↔ y ∈ tS S b j) : hasB R x.who = false := by
  have hn := ts_nodup S b h
  have h1 : (tS S b (j + 1)).Sublist (tS S b S.length) := by rw [← ts_take S b S.length (j + 1) (by omega)]; exact List.take_sublist _ _
  have h2 := hn.sublist (h1.map Sl.who)
  rw [ts_succ S b j x hx, List.map_append, List.nodup_append] at h2
  unfold hasB
  rw [List.any_eq_false]
  intro y hy e
  rw [beq_iff_eq] at e
  exact h2.2.2 y.who (List.mem_map.2 ⟨y, (hm y).1 hy, rfl⟩) x.who (by simp) e
theorem ts_add (S : List Sl) (b j : Nat) (h : rightB S = true) (hj : j < S.length) (x : Sl) (hx : S[place S.length b j]? = some x) (R : List Sl) (hR : rightB R = true) (hm : ∀ y, y ∈ R ↔ y ∈ tS S b j) :
    addS R x = (insS R x, 0) ∧ rightB (insS R x) = true ∧ (∀ y, y ∈ insS R x ↔ y ∈ tS S b (j + 1)) := by
  have h1 := ts_new S b j h hj x hx R hm
  have ho := right_one S h x (List.mem_of_getElem? hx)
  have ha : addS R x = (insS R x, 0) := by unfold addS; rw [hR, ho, if_pos (by rfl), if_neg (by rw [h1]; decide)]
  obtain ⟨-, -, -, -, h5⟩ := add_ok R x (by rw [ha])
  refine ⟨ha, h5, fun y => ?_⟩
  rw [ins_mem, ts_succ S b j x hx, List.mem_append, List.mem_singleton, hm y]
theorem dropG_all : (ws : List Int) → (L : List Sl) → ws.Nodup → (∀ w ∈ ws, hasB L w = true) → ∃ R, dropG L ws = some R ∧ ∀ s, s ∈ R ↔ s ∈ L ∧ s.who ∉ ws
  | [], L, _, _ => ⟨L, rfl, fun s => by simp⟩
  | w :: t, L, hn, hh => by
    have h1 := hh w (List.mem_cons_self ..)
    rw [dropG_yes L w t h1]
    obtain ⟨hw, ht⟩ := List.nodup_cons.1 hn
    obtain ⟨R, h2, h3⟩ := dropG_all t (delS L w) ht (fun v hv => by
      rw [del_has, hh v (List.mem_cons_of_mem _ hv)]
      simp only [Bool.true_and, bne_iff_ne]
      rintro rfl; exact hw hv)
    refine ⟨R, h2, fun s => ?_⟩
    rw [h3 s]
    unfold delS
    rw [List.mem_filter, bne_iff_ne, List.mem_cons]
    constructor
    · rintro ⟨⟨h4, h5⟩, h6⟩; exact ⟨h4, fun h7 => h7.elim h5 h6⟩
    · rintro ⟨h4, h5⟩; exact ⟨⟨h4, fun h6 => h5 (.inl h6)⟩, fun h6 => h5 (.inr h6)⟩
theorem drop_out (S : List Sl) (b : Nat) (h : rightB S = true) : dropS S ((tS S b S.length).map Sl.who) = ([], 0) := by
  obtain ⟨R, h1, h2⟩ := dropG_all ((tS S b S.length).map Sl.who) S (ts_nodup S b h) (fun w hw => by
    obtain ⟨s, hs, rfl⟩ := List.mem_map.1 hw
    unfold hasB; rw [List.any_eq_true]; exact ⟨s, (ts_mem S b s).1 hs, by simp⟩)
  have hR : R = [] := by
    rw [List.eq_nil_iff_forall_not_mem]
    intro s hs
    obtain ⟨h3, h4⟩ := (h2 s).1 hs
    exact h4 (List.mem_map.2 ⟨s, (ts_mem S b s).2 h3, rfl⟩)
  unfold dropS
  rw [if_pos h, h1, hR]
theorem mod_nat9 (n : Nat) (x : Int) (y : Nat) (hx : x = (y : Int)) : x % (n : Int) = ((y % n : Nat) : Int) := by subst hx; rfl
set_option maxRecDepth 100000 in
set_option maxHeartbeats 8000000 in
theorem order_walk (A : Option Addr) (n c : Nat) (L : List RawS) (by_ : Int) (w : World) (mn : n ≤ 9223372036854775807) (hr : Sls w A n L) (hby : 0 ≤ by_ ∧ by_ ≤ 255) :
    Calls Try.prog 7 #[.slice A n c, .int .u8 by_] w (RetB w true) := by
  have SL := Lib.hid hr
  have HLn := Lib.hid hr.len
  obtain ⟨by0, by1⟩ := hby
  obtain ⟨bn, rfl⟩ := Int.eq_ofNat_of_zero_le by0
  clear hr
  have C0 := Lib.hid (small_c L A n c w (if smallB L = true then (n : Int) else -1) SL.out mn rfl)
  obtain ⟨s1_, h1⟩ : ∃ b, smallB L = b := ⟨_, rfl⟩
  cases s1_
  · rw [small_no L n h1] at C0
    go_enter Try.func7, Try.ntmps7
    go_wp2_with fail
    refine C0.out.mono ?_
    rintro e w2 ⟨rfl, b2⟩
    have bb := Lib.hid b2
    clear b2 C0
    go_wp2_with fail
    refine (awake_any _).mono ?_
    rintro e w3 ⟨rfl, b3⟩
    go_wp2
    go_ret
    exact ⟨rfl, bl_trans bb.out b3⟩
  · rw [small_yes L n h1] at C0
    obtain ⟨hl, hn20⟩ := small_lim L h1
    rw [HLn.out] at hn20
    have ML := Lib.hid hl
    have t0 : decide ((n : Int) < 0) = false := by simp
    clear hl h1
    obtain ⟨br, hbr⟩ : ∃ b, rightB (cc L) = b := ⟨_, rfl⟩
    have HBR := Lib.hid hbr
    clear hbr
    go_enter Try.func7, Try.ntmps7
    go_wp2_with fail
    refine C0.out.mono ?_
    rintro e w2 ⟨rfl, b2⟩
    have bb := Lib.hid b2
    replace SL := Lib.hid (SL.out.below b2)
    clear b2 C0
    have C1 := Lib.hid (right_c L A n c w2 br SL.out (by omega) ML.out HBR.out)
    cases br
    · go_wp2_with fail
      refine C1.out.mono ?_
      rintro e w3 ⟨rfl, b3⟩
      replace bb := Lib.hid (bl_trans bb.out b3)
      clear b3 C1
      go_wp2_with fail
      refine (awake_any _).mono ?_
      rintro e w4 ⟨rfl, b4⟩
      go_wp2
      go_ret
      exact ⟨rfl, bl_trans bb.out b4⟩
    · by_cases hn0 : n = 0
      · subst hn0
        go_wp2_with fail
        refine C1.out.mono ?_
        rintro e w3 ⟨rfl, b3⟩
        replace bb := Lib.hid (bl_trans bb.out b3)
        clear b3 C1
        go_wp2_with fail
        refine (awake_any _).mono ?_
        rintro e w4 ⟨rfl, b4⟩
        go_wp2
        go_ret
        exact ⟨rfl, bl_trans bb.out b4⟩
      · have hdn : ((n : Int) == 0) = false := beq_eq_false_iff_ne.2 (by omega)
        have hn1 : 0 < n := by omega
        clear hn0
        obtain ⟨ab, ao, rfl, -⟩ := SL.out.1.2 hn1
        go_wp2_with fail
        refine C1.out.mono ?_
        rintro e w3 ⟨rfl, b3⟩
        replace bb := Lib.hid (bl_trans bb.out b3)
        replace SL := Lib.hid (SL.out.below b3)
        clear b3 C1
        have HCL : Hid ((cc L).length = n) := Lib.hid (by rw [cc_len, HLn.out])
        go_wp2
        go_loopw [5, 6, 29] (fun v u i wr => ∃ (j : Nat) (B : Option Addr) (k : Nat) (d : Nat) (R : List RawS), j ≤ n ∧ v = .slice B k d ∧ i = .int .i64 j ∧ Hid (Sls wr B k R) ∧ Hid (Lim R) ∧ Hid (rightB (cc R) = true) ∧ Hid (∀ y, y ∈ cc R ↔ y ∈ tS (cc L) bn j) ∧ Hid (Own w3 wr 3 1 u j (zs ((tS (cc L) bn j).map Sl.who)))) (fun _ _ i _ => n - (intOf i).toNat)
        case atStart => exact ⟨0, none, 0, 0, [], Nat.zero_le _, rfl, rfl, Lib.hid Sls.none_, Lib.hid Lim.nil_, Lib.hid rfl, Lib.hid (fun y => by simp [cc, tS]), Lib.hid (Own.nil_ (Below.refl _ _))⟩
        case round =>
          obtain ⟨j, B, k, d, R, hj, rfl, rfl, HS, HLM, HRR, HMM, HOWN⟩ := hrel
          generalize wr = w4 at *
          have hk8 : k ≤ 8 := by have h1 := right_len (cc R) HRR.out; rw [cc_len, HS.out.len] at h1; exact h1
          obtain ⟨Bu, du, rfl, ru⟩ := HOWN.out.form
          have RU := Lib.hid ru
          clear ru
          by_cases hlt : j < n
          · obtain ⟨pl, hpl⟩ : ∃ p, place n bn j = p := ⟨_, rfl⟩
            have hplt : pl < n := by rw [← hpl]; exact Reads.place_lt n bn j hlt
            have hnum : (0 : Int) ≤ (n : Int) - (j : Int) + (bn : Int) := by omega
            have hmod : ((n : Int) - (j : Int) + (bn : Int)) % (n : Int) = (pl : Int) := by
              rw [mod_nat9 n _ (n - j + bn) (by omega), ← hpl]; rfl
            obtain ⟨b, off, x, e5, hx, c0, c1, c2, c3, c4, hin⟩ := (SL.out.below HOWN.out.2).at_ pl hplt
            injection e5 with e5
            injection e5 with e6 e7
            subst e6 e7
            have hxc : (cc L)[place (cc L).length bn j]? = some (st x) := by rw [HCL.out, hpl]; exact cc_at L pl x hx
            obtain ⟨g1, g2, g3⟩ := ts_add (cc L) bn j HBR.out (by rw [HCL.out]; exact hlt) (st x) hxc (cc R) HRR.out HMM.out
            have HG2 := Lib.hid g2
            have HG3 := Lib.hid g3
            have HTS : Hid ((tS (cc L) bn (j + 1)).map Sl.who = (tS (cc L) bn j).map Sl.who ++ [x.who]) := Lib.hid (by rw [ts_succ (cc L) bn j _ hxc, List.map_append]; rfl)
            have C2 := Lib.hid (add_n R x B k d (w4.alloc (.cells (cS x) 26)) (insS (cc R) (st x), 0) (HS.out.alloc _) (by omega) HLM.out (hin.alloc _) (ML.out.at_ pl x hx) g1)
            have KX := Lib.hid (Blk.new w4 26 (cS x))
            clear g1 g2 g3 hxc hx hin hpl
            obtain ⟨xw, xm, xt, xA, xn, xc, xW, xB, xk, xd, xT⟩ := x
            simp only [cS] at C2 KX
            go_wp2_with fail
            refine C2.out.mono ?_
            rintro e w5 ⟨B5, k5, d5, R5, rfl, s5, e5, m5, b5, n5, n6⟩
            have HN5 : Hid (∀ b off, B5 = some ⟨b, off, none⟩ → w4.heap.size + 1 ≤ b) := Lib.hid (by simpa only [World.size_alloc] using n5)
            have HN6 : Hid (∀ x ∈ R5, New1 (w4.heap.size + 1) x) := Lib.hid (by simpa only [World.size_alloc] using n6)
            have HLTU : Hid (∀ g, (Value.slice Bu j du).ownBlock = some g → g < w4.heap.size) := Lib.hid (fun g hg => HOWN.out.lt g hg)
            have S5 := Lib.hid s5
            have E5 : Hid (cc R5 = insS (cc R) (st ⟨xw, xm, xt, xA, xn, xc, xW, xB, xk, xd, xT⟩)) := Lib.hid e5
            have M5 := Lib.hid m5
            have HO5 := Lib.hid ((HOWN.out.alloc (.cells #[.int .i64 xw, .int .i64 xm, .int .i64 xt, .slice xA xn xc, .slice xB xk xd] 26)).below b5)
            have q0 := (KX.out.below b5).cell 0 _ rfl
            have hb1 : (j + 1) * 8 ≤ 140737488355328 := by omega
            clear s5 e5 m5 b5 n5 n6 C2 c0 c1 c2 c3 c4
            go_wp2_with (at_builtin; refine append_rd rfl _ _ 27 rfl Mem.tInt w3 _ _ _ rfl (HO5.out.alloc _) _ 1 1 [.int .i64 xw] rfl (Rd.builtAt _ 1 1 [.int .i64 xw] _ rfl (by simp)) (one_cons rfl one_nil) (by omega) (by omega) ?_; intro v' w' hown' hg; have HO6 := Lib.hid hown'; have HG6 := Lib.hid hg; clear hown' hg)
            have HS6 : Hid (Sls w' B5 k5 R5) := Lib.hid ⟨rd_grown (S5.out.1.alloc _) HG6.out (fun b off e hn e2 => by have h1 := HLTU.out b e2; have h2 := HN5.out b off e; omega),
              Inners.grown (fun x hx => (S5.out.2 x hx).alloc _) (fun x hx => ⟨fun b off e hn e2 => by have h1 := HLTU.out b e2; have h2 := (HN6.out x hx).1 b off e hn; omega, fun b off e hn e2 => by have h1 := HLTU.out b e2; have h2 := (HN6.out x hx).2 b off e hn; omega⟩) HG6.out⟩
            go_roundw
            case rel => exact ⟨j + 1, B5, k5, d5, R5, by omega, rfl, by go_num, HS6, M5, Lib.hid (by rw [E5.out]; exact HG2.out), Lib.hid (by rw [E5.out]; exact HG3.out), Lib.hid (by rw [HTS.out, zs_app]; exact HO6.out)⟩
            case measure => simp [intOf]; omega
          · obtain rfl : j = n := by omega
            have HEQ : Hid (cc R = cc L) := Lib.hid (up_eq (cc R) (cc L) HRR.out HBR.out (fun y => by rw [HMM.out y]; have := ts_mem (cc L) bn y; rw [HCL.out] at this; exact this))
            replace bb := Lib.hid (bl_trans bb.out HOWN.out.2)
            replace SL := Lib.hid (SL.out.below HOWN.out.2)
            have HDO := Lib.hid (drop_out (cc L) bn HBR.out)
            rw [HCL.out] at HDO
            have C3 := Lib.hid (drop_c R ((tS (cc L) bn j).map Sl.who) B Bu k d j du w4 ([], 0) HS.out (by omega) HLM.out RU.out (by omega) (by rw [HEQ.out]; exact HDO.out))
            go_wp2_with fail
            refine C3.out.mono ?_
            rintro e w5 ⟨B5, k5, d5, R5, rfl, s5, e5, -, b5⟩
            obtain rfl : k5 = 0 := by
              have h1 := s5.len
              have h2 := congrArg List.length e5
              rw [cc_len, h1] at h2
              exact h2
            replace bb := Lib.hid (bl_trans bb.out b5)
            replace SL := Lib.hid (SL.out.below b5)
            replace HS := Lib.hid (HS.out.below b5)
            clear s5 e5 b5 C3
            have C4 := Lib.hid (refs_c R B k d w5 HS.out (by omega) HLM.out)
            go_wp2_with fail
            refine C4.out.mono ?_
            rintro e w6 ⟨v6, R6, rfl, o1, o2, o3, o4, -⟩
            obtain ⟨B6, d6, rfl, r6⟩ := o1.form
            have S6 : Hid (Sls w6 B6 k R6) := Lib.hid ⟨r6, o3⟩
            have E6 := Lib.hid o2
            have M6 := Lib.hid o4
            replace bb := Lib.hid (bl_trans bb.out o1.2)
            replace SL := Lib.hid (SL.out.below o1.2)
            clear o1 o2 o3 o4 r6 C4
            have C5 := Lib.hid (refs_c L _ j c w6 SL.out (by omega) ML.out)
            go_wp2_with fail
            refine C5.out.mono ?_
            rintro e w7 ⟨v7, R7, rfl, o1, o2, o3, o4, -⟩
            obtain ⟨B7, d7, rfl, r7⟩ := o1.form
            have C6 := Lib.hid (same_c R6 R7 B6 B7 k d6 j d7 w7 true (S6.out.below o1.2) ⟨r7, o3⟩ (by omega) M6.out o4 (decide_eq_true (by rw [E6.out, o2, HEQ.out])))
            replace bb := Lib.hid (bl_trans bb.out o1.2)
            clear o1 o2 o3 o4 r7 C5
            go_wp2_with fail
            refine C6.out.mono ?_
            rintro e w8 ⟨rfl, b8⟩
            replace bb := Lib.hid (bl_trans bb.out b8)
            clear b8 C6
            go_wp2_with fail
            refine (awake_any _).mono ?_
            rintro e w9 ⟨rfl, b9⟩
            go_wp2
            go_ret
            exact ⟨rfl, bl_trans bb.out b9⟩
end Go.Proofs.Ytakdeagaldnelaa.Sleep
