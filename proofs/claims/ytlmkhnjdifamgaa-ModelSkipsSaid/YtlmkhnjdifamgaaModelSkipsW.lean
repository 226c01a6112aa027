/-
  THE WALK OF THE LAW ModelSkips.
-/
import Derived.Test.YtlmkhnjdifamgaaModelTail
namespace Go.Proofs.Ytlmkhnjdifamgaa.Model
open Go.ChangeShapes Go.WideShapes Go.ChangeAt Go.RowKit Mem Go.Proofs.Ytlmkhnjdifamgaa.Code

theorem own_built (w : World) (e : TypeId) (size n : Nat) (xs : List Value) (h : xs.length = n * size) (hn : n ≤ 1000000) : Own w (w.alloc (.cells xs.toArray e)) e size (.slice (some ⟨w.heap.size, 0, none⟩) n n) n xs :=
  ⟨⟨h, .inr ⟨w.heap.size, n, _, rfl, Nat.le_refl _, heap_alloc_new w _, Nat.le_refl _, by unfold maxLen; omega, by simpa using h, by rw [← h]; simp⟩⟩, bl_alloc (Below.refl _ _) _⟩
def skipR (g a : Nat) (v : Int) : Raw := ⟨skipS a v, some ⟨g, 0, none⟩, 1, 1⟩
theorem nil_code : checkS [] = 0 := by decide
/-- What the two codes come to. -/
theorem skip_run (a : List Step) (v : Int) (h : List Heap.Cell) (hv : Heap.vB v = true) (h1 : 1 ≤ a.length) (h20 : a.length ≤ 20) :
    (runS (skipS a.length v :: a) h).2.2 = (runS a h).2.2 ∧ ((runS a h).2.2 = true → (if v = 0 then runS (skipS a.length v :: a) h = runS [] h else runS (skipS a.length v :: a) h = runS a h)) ∧
      ((runS a h).2.2 = false → runS (skipS a.length v :: a) h = (⟨0, 0, [], [], [], []⟩, h, false) ∧ runS a h = (⟨0, 0, [], [], [], []⟩, h, false)) := by
  have hc := skip_code a v hv h1 h20
  have hok : okR (skipS a.length v :: a) h = okR a h := by
    unfold okR
    rw [Bool.eq_iff_iff, Bool.and_eq_true, Bool.and_eq_true, decide_eq_true_eq, decide_eq_true_eq, hc]
  unfold runS
  rw [hok]
  cases ho : okR a h with
  | false => exact ⟨rfl, fun e => (by cases e), fun _ => ⟨rfl, rfl⟩⟩
  | true =>
    have hr : Heap.rightB h = true := by unfold okR at ho; rw [Bool.and_eq_true] at ho; exact ho.2
    have hn : okR [] h = true := by unfold okR; rw [hr, nil_code]; rfl
    refine ⟨rfl, fun _ => ?_, fun e => (by cases e)⟩
    rw [hn, if_pos rfl, if_pos rfl, skip_end a v (s0 h) hv hr]
    split
    · rfl
    · rfl
theorem skip_lim {l : List Raw} (h : Lim l) (q n : Nat) (v : Int) : Lim (skipR q n v :: l) := by
  intro r hr
  rcases List.mem_cons.1 hr with rfl | hr
  · show 1 ≤ 1000000; omega
  · exact h r hr
theorem skip_at {w : World} {B : Option Addr} {q n m : Nat} {v : Int} {l : List Raw} (rd : Rd w 4 B (1 + m) (rs [skipR q n v] ++ rs l)) (ht : Rd w 2 (some ⟨q, 0, none⟩) 1 (Term.ops [⟨1, v⟩])) (hl : Terms w l) : At w B (1 + m) (skipR q n v :: l) := by
  refine ⟨rd, ?_⟩
  intro r hr
  rcases List.mem_cons.1 hr with rfl | hr
  · exact ⟨ht, Nat.le_refl _, by show 1 ≤ 9223372036854775807; omega⟩
  · exact hl r hr
set_option maxRecDepth 100000 in
set_option maxHeartbeats 4000000 in
theorem skips_walk (S : Said) (A HA : Option Addr) (n c hn hc : Nat) (v : Int) (l : List Raw) (h : List Heap.Cell) (w : World) (hnc : n ≤ c) (mn : n ≤ 9223372036854775807) (cm : c ≤ 9223372036854775807) (hat : At w A n l) (hv : -2147483648 ≤ v ∧ v ≤ 2147483647) (hmn : hn ≤ 9223372036854775807) (hh : Rd w 2 HA hn (Heap.cs h)) :
    Calls Try.prog 7 #[.slice A n c, .int .i32 v, .slice HA hn hc] w (RetB w true) := by
  have HS := Lib.hid S
  clear S
  have HL := Lib.hid hat.len
  have HA0 := Lib.hid hat
  have HH0 := Lib.hid hh
  have HHL : Hid (h.length = hn) := Lib.hid (by have h1 := hh.1; rw [Heap.cs_len] at h1; omega)
  clear hat hh
  have bb : Hid (Below w.heap.size w w) := Lib.hid (Below.refl _ _)
  by_cases n0 : n = 0
  · subst n0
    go_enter Try.func7, Try.ntmps7
    go_wp2_with fail
    refine (awake_any HS.out _).mono ?_
    rintro e wv1 ⟨rfl, b_⟩
    replace bb := Lib.hid (bl_trans bb.out b_)
    clear b_
    go_wp2
    go_ret
    exact ⟨rfl, bb.out⟩
  have nz : ((n : Int) == 0) = false := by simpa using n0
  by_cases n20 : n ≤ 20
  case neg =>
    have n21 : (20 : Int) < (n : Int) := by omega
    go_enter Try.func7, Try.ntmps7
    go_wp2_with fail
    refine (awake_any HS.out _).mono ?_
    rintro e wv1 ⟨rfl, b_⟩
    replace bb := Lib.hid (bl_trans bb.out b_)
    clear b_
    go_wp2
    go_ret
    exact ⟨rfl, bb.out⟩
  have n20' : ¬ ((20 : Int) < (n : Int)) := by omega
  cases hs : smallB l with
  | false =>
    have HSM := Lib.hid (small_neg l hs)
    clear hs
    go_enter Try.func7, Try.ntmps7
    go_wp2_with fail
    refine (small_c l _ _ _ _ (-1) HA0.out mn HSM.out).mono ?_
    rintro e wv1 ⟨rfl, b_⟩
    replace HA0 := Lib.hid (HA0.out.below b_)
    replace HH0 := Lib.hid (HH0.out.below b_)
    replace bb := Lib.hid (bl_trans bb.out b_)
    clear b_
    go_wp2_with fail
    refine (awake_any HS.out _).mono ?_
    rintro e wv2 ⟨rfl, b_⟩
    replace HA0 := Lib.hid (HA0.out.below b_)
    replace HH0 := Lib.hid (HH0.out.below b_)
    replace bb := Lib.hid (bl_trans bb.out b_)
    clear b_
    go_wp2
    go_ret
    exact ⟨rfl, bb.out⟩
  | true =>
    obtain ⟨hlim, h40⟩ := small_lim l hs
    have HSM := Lib.hid (small_val l n HL.out hs)
    have HLM := Lib.hid hlim
    clear hs hlim h40
    by_cases h64 : hn ≤ 64
    case neg =>
      have h64' : (64 : Int) < (hn : Int) := by omega
      go_enter Try.func7, Try.ntmps7
      go_wp2_with fail
      refine (small_c l _ _ _ _ (n : Int) HA0.out mn HSM.out).mono ?_
      rintro e wv1 ⟨rfl, b_⟩
      replace HA0 := Lib.hid (HA0.out.below b_)
      replace HH0 := Lib.hid (HH0.out.below b_)
      replace bb := Lib.hid (bl_trans bb.out b_)
      clear b_
      go_wp2_with fail
      refine (awake_any HS.out _).mono ?_
      rintro e wv2 ⟨rfl, b_⟩
      replace HA0 := Lib.hid (HA0.out.below b_)
      replace HH0 := Lib.hid (HH0.out.below b_)
      replace bb := Lib.hid (bl_trans bb.out b_)
      clear b_
      go_wp2
      go_ret
      exact ⟨rfl, bb.out⟩
    have h64' : ¬ ((64 : Int) < (hn : Int)) := by omega
    have hsk := skip_run (ss l) v h (by unfold Heap.vB; simp; omega) (by rw [ss_len, HL.out]; omega) (by rw [ss_len, HL.out]; omega)
    obtain ⟨o, g, ok, r1, r2, r3, r4, gn, hrun, e1, e2, e3, e4, e5, l1, l2, l3, l4, l5⟩ := run_names (ss l) h
    obtain ⟨p, g3, ok3, s1, s2, s3, s4, gn3, hrn, d1, d2, d3, d4, d5, m1, m2, m3, m4, m5⟩ := run_names [] h
    rw [hrun, hrn] at hsk
    obtain ⟨k1, k2, k3⟩ := hsk
    have hss : ∀ q, ss (skipR q n v :: l) = skipS (ss l).length v :: ss l := fun q => by rw [ss_len, HL.out]; rfl
    rw [HHL.out] at l5 m5
    have hnn := HHL.out
    have NLIM : Hid (Lim []) := Lib.hid (fun r hr => by cases hr)
    obtain ⟨f3, hf3⟩ : ∃ f3, errOf ok3 = f3 := ⟨_, rfl⟩
    have HRN : Hid (runS (ss []) h = (p, g3, ok3)) := Lib.hid hrn
    have HRA := Lib.hid hrun
    cases ok with
    | false =>
      obtain ⟨hc0, hx0⟩ := k3 rfl
      have HRC : Hid (∀ q, runS (ss (skipR q n v :: l)) h = (⟨0, 0, [], [], [], []⟩, h, false)) := Lib.hid (fun q => by rw [hss]; exact hc0)
      replace HRA : Hid (runS (ss l) h = (⟨0, 0, [], [], [], []⟩, h, false)) := Lib.hid (HRA.out.trans hx0)
      clear k1 k2 k3 hc0 hx0 hrn hrun hss e1 e2 e3 e4 e5 l1 l2 l3 l4 l5
      by_cases hv0 : v = 0
      · subst hv0
        go_enter Try.func7, Try.ntmps7
        go_wp2_with fail
        refine (small_c l _ _ _ _ (n : Int) HA0.out mn HSM.out).mono ?_
        rintro e wv1 ⟨rfl, b_⟩
        replace HA0 := Lib.hid (HA0.out.below b_)
        replace HH0 := Lib.hid (HH0.out.below b_)
        replace bb := Lib.hid (bl_trans bb.out b_)
        clear b_
        have HTM : Hid (Rd (wv1.alloc (.cells #[.int .i64 1, .int .i64 0] 49)) 2 (some ⟨wv1.heap.size, 0, none⟩) 1 (Term.ops [⟨1, 0⟩])) := Lib.hid (Rd.built _ 2 1 (Term.ops [⟨1, 0⟩]) _ rfl)
        have hs1 : (wv1.alloc (.cells #[.int .i64 1, .int .i64 0] 49)).heap.size = wv1.heap.size + 1 := by simp
        have HOW : Hid (Own (wv1.alloc (.cells #[.int .i64 1, .int .i64 0] 49)) ((wv1.alloc (.cells #[.int .i64 1, .int .i64 0] 49)).alloc (.cells #[.int .i64 4, .int .i64 (n : Int), .int .i64 0, .slice (some ⟨wv1.heap.size, 0, none⟩) 1 1] 46)) 46 4 (.slice (some ⟨wv1.heap.size + 1, 0, none⟩) 1 1) 1 (rs [skipR wv1.heap.size n 0])) := Lib.hid (by
          have h1 := own_built (wv1.alloc (.cells #[.int .i64 1, .int .i64 0] 49)) 46 4 1 (rs [skipR wv1.heap.size n 0]) rfl (by decide)
          rw [hs1] at h1
          exact h1)
        clear hs1
        go_wp2_with (at_builtin; refine append_rd rfl _ _ 22 rfl tStep (wv1.alloc (.cells #[.int .i64 1, .int .i64 0] 49)) (.slice (some ⟨wv1.heap.size + 1, 0, none⟩) 1 1) 1 (rs [skipR wv1.heap.size n 0]) rfl HOW.out A n c (rs l) rfl ((HA0.out.1.alloc _).alloc _) (rs_one _) (by omega) (by omega) ?_; intro v2 wv2 ho2 hg2; obtain ⟨B2, d2_, rfl, hcap2, rd2⟩ := own_room ho2; have hlim2 := own_lim ho2; have RC : Hid (At wv2 B2 (1 + n) (skipR wv1.heap.size n 0 :: l)) := Lib.hid (skip_at rd2 (HTM.out.below ho2.2) ((HA0.out.2.below (bl_alloc (Below.refl _ _) _)).below ho2.2)); replace bb := Lib.hid (bl_trans (bl_alloc bb.out _) ho2.2); replace HA0 := Lib.hid ((HA0.out.below (bl_alloc (Below.refl _ _) _)).below ho2.2); replace HH0 := Lib.hid ((HH0.out.below (bl_alloc (Below.refl _ _) _)).below ho2.2); obtain ⟨hl2a, hl2b⟩ := hlim2; clear ho2 hg2 rd2 HOW HTM)
        have HLC : Hid (Lim (skipR wv1.heap.size n 0 :: l)) := Lib.hid (skip_lim HLM.out _ _ _)
        refine (HS.out.run (skipR wv1.heap.size n 0 :: l) h _ _ (1 + n) d2_ hn hc _ _ _ _ 0 0 0 0 hn 1 RC.out hl2a hl2b HLC.out (by omega) HH0.out (by omega) (HRC.out _) rfl rfl rfl rfl hnn rfl).mono ?_
        rintro e wv3 ⟨Aa1, ca1, Aa2, ca2, Aa3, ca3, Aa4, ca4, Ga, gca, rfl, ho, hg, b_⟩
        replace HA0 := Lib.hid (HA0.out.below b_)
        replace HH0 := Lib.hid (HH0.out.below b_)
        replace RC := Lib.hid (RC.out.below b_)
        replace bb := Lib.hid (bl_trans bb.out b_)
        have OAa := Lib.hid ho
        have GRa := Lib.hid hg
        clear b_ ho hg
        clear RC
        have Ba : Hid (w.heap.size ≤ wv3.heap.size) := Lib.hid bb.out.size
        obtain ⟨wv4, hwv4⟩ : ∃ W, W = wv3.alloc (.cells #[.int .i64 0, .int .i64 0, .slice Aa1 0 ca1, .slice Aa2 0 ca2, .slice Aa3 0 ca3, .slice Aa4 0 ca4] 30) := ⟨_, rfl⟩
        have b_ : Below wv3.heap.size wv3 wv4 := by rw [hwv4]; exact bl_alloc (Below.refl _ _) _
        replace HA0 := Lib.hid (HA0.out.below b_)
        replace HH0 := Lib.hid (HH0.out.below b_)
        replace OAa := Lib.hid (OAa.out.below b_)
        replace GRa := Lib.hid (GRa.out.below b_)
        replace bb := Lib.hid (bl_trans bb.out b_)
        clear b_
        have Ka : Hid (Blk wv4 wv3.heap.size 30 #[.int .i64 0, .int .i64 0, .slice Aa1 0 ca1, .slice Aa2 0 ca2, .slice Aa3 0 ca3, .slice Aa4 0 ca4]) := Lib.hid (by rw [hwv4]; exact Blk.new _ _ _)
        go_wp2_with fail
        rw [← hwv4]
        clear hwv4
        refine (HS.out.run l h _ _ n c hn hc _ _ _ _ 0 0 0 0 hn 1 HA0.out hnc cm HLM.out (by omega) HH0.out (by omega) HRA.out rfl rfl rfl rfl hnn rfl).mono ?_
        rintro e wv5 ⟨Ab1, cb1, Ab2, cb2, Ab3, cb3, Ab4, cb4, Gb, gcb, rfl, ho, hg, b_⟩
        replace HA0 := Lib.hid (HA0.out.below b_)
        replace HH0 := Lib.hid (HH0.out.below b_)
        replace OAa := Lib.hid (OAa.out.below b_)
        replace GRa := Lib.hid (GRa.out.below b_)
        replace Ka := Lib.hid (Ka.out.below b_)
        replace bb := Lib.hid (bl_trans bb.out b_)
        have OAb := Lib.hid ho
        have GRb := Lib.hid hg
        clear b_ ho hg
        clear HA0 OAb GRb
        have LWOAa := Lib.hid (OAa.out.lw (Nat.le_refl _))
        have LWGRa := Lib.hid (rd_lw GRa.out (by decide) (Nat.le_refl _))
        have NEba : Hid (wv5.heap.size ≠ wv3.heap.size) := Lib.hid (by have := Ka.out.lt; omega)
        have Bb : Hid (w.heap.size ≤ wv5.heap.size) := Lib.hid bb.out.size
        obtain ⟨wv6, hwv6⟩ : ∃ W, W = wv5.alloc (.cells #[.int .i64 0, .int .i64 0, .slice Ab1 0 cb1, .slice Ab2 0 cb2, .slice Ab3 0 cb3, .slice Ab4 0 cb4] 30) := ⟨_, rfl⟩
        have b_ : Below wv5.heap.size wv5 wv6 := by rw [hwv6]; exact bl_alloc (Below.refl _ _) _
        replace HH0 := Lib.hid (HH0.out.below b_)
        replace OAa := Lib.hid (OAa.out.below b_)
        replace GRa := Lib.hid (GRa.out.below b_)
        replace Ka := Lib.hid (Ka.out.below b_)
        replace bb := Lib.hid (bl_trans bb.out b_)
        clear b_
        have Kb : Hid (Blk wv6 wv5.heap.size 30 #[.int .i64 0, .int .i64 0, .slice Ab1 0 cb1, .slice Ab2 0 cb2, .slice Ab3 0 cb3, .slice Ab4 0 cb4]) := Lib.hid (by rw [hwv6]; exact Blk.new _ _ _)
        go_wp2_with fail
        rw [← hwv6]
        clear hwv6
        have LTb : Hid (wv5.heap.size < wv6.heap.size) := Lib.hid Kb.out.lt
        refine (HS.out.runN [] h _ _ 0 0 hn hc _ _ _ _ s1 s2 s3 s4 gn3 f3 ⟨Rd.none_, fun r hr => by cases hr⟩ (Nat.le_refl _) (by omega) NLIM.out (by omega) HH0.out (by omega) HRN.out d1 d2 d3 d4 d5 hf3).mono ?_
        rintro e wv7 ⟨Ac1, cc1, Ac2, cc2, Ac3, cc3, Ac4, cc4, Gc, gcc, rfl, ho, hg, b_, hnw⟩
        replace HH0 := Lib.hid (HH0.out.below b_)
        replace OAa := Lib.hid (OAa.out.below b_)
        replace GRa := Lib.hid (GRa.out.below b_)
        replace Ka := Lib.hid (Ka.out.below b_)
        replace Kb := Lib.hid (Kb.out.below b_)
        replace bb := Lib.hid (bl_trans bb.out b_)
        have OAc := Lib.hid ho
        have GRc := Lib.hid hg
        clear b_ ho hg
        have NWc := Lib.hid hnw
        clear hnw
        clear HH0
        have kz0 := Kb.out.cell 0 _ rfl
        have kz1 := Kb.out.cell 1 _ rfl
        have kz2 := Kb.out.cell 2 _ rfl
        have kz3 := Kb.out.cell 3 _ rfl
        have kz4 := Kb.out.cell 4 _ rfl
        have kz5 := Kb.out.cell 5 _ rfl
        have kzf := Kb.out.frozen
        obtain ⟨wv8, hwv8⟩ : ∃ W, W = ((((((wv7.setCell ⟨wv5.heap.size, 0, none⟩ (.int .i64 p.kind)).setCell ⟨wv5.heap.size, 1, none⟩ (.int .i64 p.why)).setCell ⟨wv5.heap.size, 2, none⟩ (.slice Ac1 s1 cc1)).setCell ⟨wv5.heap.size, 3, none⟩ (.slice Ac2 s2 cc2)).setCell ⟨wv5.heap.size, 4, none⟩ (.slice Ac3 s3 cc3)).setCell ⟨wv5.heap.size, 5, none⟩ (.slice Ac4 s4 cc4)) := ⟨_, rfl⟩
        replace bb : Hid (Below w.heap.size w wv8) := Lib.hid (by rw [hwv8]; exact six_bel bb.out Bb.out (.int .i64 p.kind) (.int .i64 p.why) (.slice Ac1 s1 cc1) (.slice Ac2 s2 cc2) (.slice Ac3 s3 cc3) (.slice Ac4 s4 cc4))
        have Kc_ : Hid (Blk wv8 wv5.heap.size 30 #[.int .i64 p.kind, .int .i64 p.why, .slice Ac1 s1 cc1, .slice Ac2 s2 cc2, .slice Ac3 s3 cc3, .slice Ac4 s4 cc4]) := Lib.hid (by rw [hwv8]; exact six_blk_put Kb.out (.int .i64 p.kind) (.int .i64 p.why) (.slice Ac1 s1 cc1) (.slice Ac2 s2 cc2) (.slice Ac3 s3 cc3) (.slice Ac4 s4 cc4))
        replace Ka : Hid (Blk wv8 wv3.heap.size 30 #[.int .i64 0, .int .i64 0, .slice Aa1 0 ca1, .slice Aa2 0 ca2, .slice Aa3 0 ca3, .slice Aa4 0 ca4]) := Lib.hid (by rw [hwv8]; exact six_blk_ne Ka.out NEba.out (.int .i64 p.kind) (.int .i64 p.why) (.slice Ac1 s1 cc1) (.slice Ac2 s2 cc2) (.slice Ac3 s3 cc3) (.slice Ac4 s4 cc4))
        have OAa_ := Lib.hid (OAa.out.six LWOAa.out (.int .i64 p.kind) (.int .i64 p.why) (.slice Ac1 s1 cc1) (.slice Ac2 s2 cc2) (.slice Ac3 s3 cc3) (.slice Ac4 s4 cc4))
        rw [← hwv8] at OAa_
        have GRa_ := Lib.hid (six_lw GRa.out LWGRa.out (.int .i64 p.kind) (.int .i64 p.why) (.slice Ac1 s1 cc1) (.slice Ac2 s2 cc2) (.slice Ac3 s3 cc3) (.slice Ac4 s4 cc4))
        rw [← hwv8] at GRa_
        have OAc_ := Lib.hid (OAc.out.six_new NWc.out LTb.out (.int .i64 p.kind) (.int .i64 p.why) (.slice Ac1 s1 cc1) (.slice Ac2 s2 cc2) (.slice Ac3 s3 cc3) (.slice Ac4 s4 cc4))
        rw [← hwv8] at OAc_
        have GRc_ := Lib.hid (six_nw GRc.out NWc.out.2.2.2.2 LTb.out (.int .i64 p.kind) (.int .i64 p.why) (.slice Ac1 s1 cc1) (.slice Ac2 s2 cc2) (.slice Ac3 s3 cc3) (.slice Ac4 s4 cc4))
        rw [← hwv8] at GRc_
        clear Kb OAc GRc OAa GRa
        go_wp2_with fail
        rw [← hwv8]
        clear hwv8 kz0 kz1 kz2 kz3 kz4 kz5 kzf
        refine (awake_any HS.out _).mono ?_
        rintro e wv9 ⟨rfl, b_⟩
        replace Kc_ := Lib.hid (Kc_.out.below b_)
        replace Ka := Lib.hid (Ka.out.below b_)
        replace OAa_ := Lib.hid (OAa_.out.below b_)
        replace GRa_ := Lib.hid (GRa_.out.below b_)
        replace OAc_ := Lib.hid (OAc_.out.below b_)
        replace GRc_ := Lib.hid (GRc_.out.below b_)
        replace bb := Lib.hid (bl_trans bb.out b_)
        clear b_
        go_wp2
        go_ret
        exact ⟨rfl, bb.out⟩
      · have hv1 : (v == 0) = false := beq_eq_false_iff_ne.2 hv0
        go_enter Try.func7, Try.ntmps7
        go_wp2_with fail
        refine (small_c l _ _ _ _ (n : Int) HA0.out mn HSM.out).mono ?_
        rintro e wv1 ⟨rfl, b_⟩
        replace HA0 := Lib.hid (HA0.out.below b_)
        replace HH0 := Lib.hid (HH0.out.below b_)
        replace bb := Lib.hid (bl_trans bb.out b_)
        clear b_
        have HTM : Hid (Rd (wv1.alloc (.cells #[.int .i64 1, .int .i64 v] 49)) 2 (some ⟨wv1.heap.size, 0, none⟩) 1 (Term.ops [⟨1, v⟩])) := Lib.hid (Rd.built _ 2 1 (Term.ops [⟨1, v⟩]) _ rfl)
        have hs1 : (wv1.alloc (.cells #[.int .i64 1, .int .i64 v] 49)).heap.size = wv1.heap.size + 1 := by simp
        have HOW : Hid (Own (wv1.alloc (.cells #[.int .i64 1, .int .i64 v] 49)) ((wv1.alloc (.cells #[.int .i64 1, .int .i64 v] 49)).alloc (.cells #[.int .i64 4, .int .i64 (n : Int), .int .i64 0, .slice (some ⟨wv1.heap.size, 0, none⟩) 1 1] 46)) 46 4 (.slice (some ⟨wv1.heap.size + 1, 0, none⟩) 1 1) 1 (rs [skipR wv1.heap.size n v])) := Lib.hid (by
          have h1 := own_built (wv1.alloc (.cells #[.int .i64 1, .int .i64 v] 49)) 46 4 1 (rs [skipR wv1.heap.size n v]) rfl (by decide)
          rw [hs1] at h1
          exact h1)
        clear hs1
        go_wp2_with (at_builtin; refine append_rd rfl _ _ 22 rfl tStep (wv1.alloc (.cells #[.int .i64 1, .int .i64 v] 49)) (.slice (some ⟨wv1.heap.size + 1, 0, none⟩) 1 1) 1 (rs [skipR wv1.heap.size n v]) rfl HOW.out A n c (rs l) rfl ((HA0.out.1.alloc _).alloc _) (rs_one _) (by omega) (by omega) ?_; intro v2 wv2 ho2 hg2; obtain ⟨B2, d2_, rfl, hcap2, rd2⟩ := own_room ho2; have hlim2 := own_lim ho2; have RC : Hid (At wv2 B2 (1 + n) (skipR wv1.heap.size n v :: l)) := Lib.hid (skip_at rd2 (HTM.out.below ho2.2) ((HA0.out.2.below (bl_alloc (Below.refl _ _) _)).below ho2.2)); replace bb := Lib.hid (bl_trans (bl_alloc bb.out _) ho2.2); replace HA0 := Lib.hid ((HA0.out.below (bl_alloc (Below.refl _ _) _)).below ho2.2); replace HH0 := Lib.hid ((HH0.out.below (bl_alloc (Below.refl _ _) _)).below ho2.2); obtain ⟨hl2a, hl2b⟩ := hlim2; clear ho2 hg2 rd2 HOW HTM)
        have HLC : Hid (Lim (skipR wv1.heap.size n v :: l)) := Lib.hid (skip_lim HLM.out _ _ _)
        refine (HS.out.run (skipR wv1.heap.size n v :: l) h _ _ (1 + n) d2_ hn hc _ _ _ _ 0 0 0 0 hn 1 RC.out hl2a hl2b HLC.out (by omega) HH0.out (by omega) (HRC.out _) rfl rfl rfl rfl hnn rfl).mono ?_
        rintro e wv3 ⟨Aa1, ca1, Aa2, ca2, Aa3, ca3, Aa4, ca4, Ga, gca, rfl, ho, hg, b_⟩
        replace HA0 := Lib.hid (HA0.out.below b_)
        replace HH0 := Lib.hid (HH0.out.below b_)
        replace RC := Lib.hid (RC.out.below b_)
        replace bb := Lib.hid (bl_trans bb.out b_)
        have OAa := Lib.hid ho
        have GRa := Lib.hid hg
        clear b_ ho hg
        clear RC
        have Ba : Hid (w.heap.size ≤ wv3.heap.size) := Lib.hid bb.out.size
        obtain ⟨wv4, hwv4⟩ : ∃ W, W = wv3.alloc (.cells #[.int .i64 0, .int .i64 0, .slice Aa1 0 ca1, .slice Aa2 0 ca2, .slice Aa3 0 ca3, .slice Aa4 0 ca4] 30) := ⟨_, rfl⟩
        have b_ : Below wv3.heap.size wv3 wv4 := by rw [hwv4]; exact bl_alloc (Below.refl _ _) _
        replace HA0 := Lib.hid (HA0.out.below b_)
        replace HH0 := Lib.hid (HH0.out.below b_)
        replace OAa := Lib.hid (OAa.out.below b_)
        replace GRa := Lib.hid (GRa.out.below b_)
        replace bb := Lib.hid (bl_trans bb.out b_)
        clear b_
        have Ka : Hid (Blk wv4 wv3.heap.size 30 #[.int .i64 0, .int .i64 0, .slice Aa1 0 ca1, .slice Aa2 0 ca2, .slice Aa3 0 ca3, .slice Aa4 0 ca4]) := Lib.hid (by rw [hwv4]; exact Blk.new _ _ _)
        go_wp2_with fail
        rw [← hwv4]
        clear hwv4
        refine (HS.out.run l h _ _ n c hn hc _ _ _ _ 0 0 0 0 hn 1 HA0.out hnc cm HLM.out (by omega) HH0.out (by omega) HRA.out rfl rfl rfl rfl hnn rfl).mono ?_
        rintro e wv5 ⟨Ab1, cb1, Ab2, cb2, Ab3, cb3, Ab4, cb4, Gb, gcb, rfl, ho, hg, b_⟩
        replace HA0 := Lib.hid (HA0.out.below b_)
        replace HH0 := Lib.hid (HH0.out.below b_)
        replace OAa := Lib.hid (OAa.out.below b_)
        replace GRa := Lib.hid (GRa.out.below b_)
        replace Ka := Lib.hid (Ka.out.below b_)
        replace bb := Lib.hid (bl_trans bb.out b_)
        have OAb := Lib.hid ho
        have GRb := Lib.hid hg
        clear b_ ho hg
        clear HA0 HH0
        have Bb : Hid (w.heap.size ≤ wv5.heap.size) := Lib.hid bb.out.size
        obtain ⟨wv6, hwv6⟩ : ∃ W, W = wv5.alloc (.cells #[.int .i64 0, .int .i64 0, .slice Ab1 0 cb1, .slice Ab2 0 cb2, .slice Ab3 0 cb3, .slice Ab4 0 cb4] 30) := ⟨_, rfl⟩
        have b_ : Below wv5.heap.size wv5 wv6 := by rw [hwv6]; exact bl_alloc (Below.refl _ _) _
        replace OAa := Lib.hid (OAa.out.below b_)
        replace GRa := Lib.hid (GRa.out.below b_)
        replace Ka := Lib.hid (Ka.out.below b_)
        replace OAb := Lib.hid (OAb.out.below b_)
        replace GRb := Lib.hid (GRb.out.below b_)
        replace bb := Lib.hid (bl_trans bb.out b_)
        clear b_
        have Kb : Hid (Blk wv6 wv5.heap.size 30 #[.int .i64 0, .int .i64 0, .slice Ab1 0 cb1, .slice Ab2 0 cb2, .slice Ab3 0 cb3, .slice Ab4 0 cb4]) := Lib.hid (by rw [hwv6]; exact Blk.new _ _ _)
        go_wp2_with fail
        rw [← hwv6]
        clear hwv6
        refine (awake_any HS.out _).mono ?_
        rintro e wv7 ⟨rfl, b_⟩
        replace OAa := Lib.hid (OAa.out.below b_)
        replace GRa := Lib.hid (GRa.out.below b_)
        replace Ka := Lib.hid (Ka.out.below b_)
        replace OAb := Lib.hid (OAb.out.below b_)
        replace GRb := Lib.hid (GRb.out.below b_)
        replace Kb := Lib.hid (Kb.out.below b_)
        replace bb := Lib.hid (bl_trans bb.out b_)
        clear b_
        go_wp2
        go_ret
        exact ⟨rfl, bb.out⟩
    | true =>
      by_cases hv0 : v = 0
      · subst hv0
        rw [if_pos rfl] at k2
        have hcn : runS (skipS (ss l).length 0 :: ss l) h = (p, g3, ok3) := (k2 rfl).trans rfl
        have hok3 : ok3 = true := by have := k1; rw [hcn] at this; exact this
        subst hok3
        have HRC : Hid (∀ z, runS (ss (skipR z n 0 :: l)) h = (p, g3, true)) := Lib.hid (fun z => by rw [hss]; exact hcn)
        clear k1 k2 k3 hcn hss hrun hrn hf3
        go_enter Try.func7, Try.ntmps7
        go_wp2_with fail
        refine (small_c l _ _ _ _ (n : Int) HA0.out mn HSM.out).mono ?_
        rintro e wv1 ⟨rfl, b_⟩
        replace HA0 := Lib.hid (HA0.out.below b_)
        replace HH0 := Lib.hid (HH0.out.below b_)
        replace bb := Lib.hid (bl_trans bb.out b_)
        clear b_
        have HTM : Hid (Rd (wv1.alloc (.cells #[.int .i64 1, .int .i64 0] 49)) 2 (some ⟨wv1.heap.size, 0, none⟩) 1 (Term.ops [⟨1, 0⟩])) := Lib.hid (Rd.built _ 2 1 (Term.ops [⟨1, 0⟩]) _ rfl)
        have hs1 : (wv1.alloc (.cells #[.int .i64 1, .int .i64 0] 49)).heap.size = wv1.heap.size + 1 := by simp
        have HOW : Hid (Own (wv1.alloc (.cells #[.int .i64 1, .int .i64 0] 49)) ((wv1.alloc (.cells #[.int .i64 1, .int .i64 0] 49)).alloc (.cells #[.int .i64 4, .int .i64 (n : Int), .int .i64 0, .slice (some ⟨wv1.heap.size, 0, none⟩) 1 1] 46)) 46 4 (.slice (some ⟨wv1.heap.size + 1, 0, none⟩) 1 1) 1 (rs [skipR wv1.heap.size n 0])) := Lib.hid (by
          have h1 := own_built (wv1.alloc (.cells #[.int .i64 1, .int .i64 0] 49)) 46 4 1 (rs [skipR wv1.heap.size n 0]) rfl (by decide)
          rw [hs1] at h1
          exact h1)
        clear hs1
        go_wp2_with (at_builtin; refine append_rd rfl _ _ 22 rfl tStep (wv1.alloc (.cells #[.int .i64 1, .int .i64 0] 49)) (.slice (some ⟨wv1.heap.size + 1, 0, none⟩) 1 1) 1 (rs [skipR wv1.heap.size n 0]) rfl HOW.out A n c (rs l) rfl ((HA0.out.1.alloc _).alloc _) (rs_one _) (by omega) (by omega) ?_; intro v2 wv2 ho2 hg2; obtain ⟨B2, d2_, rfl, hcap2, rd2⟩ := own_room ho2; have hlim2 := own_lim ho2; have RC : Hid (At wv2 B2 (1 + n) (skipR wv1.heap.size n 0 :: l)) := Lib.hid (skip_at rd2 (HTM.out.below ho2.2) ((HA0.out.2.below (bl_alloc (Below.refl _ _) _)).below ho2.2)); replace bb := Lib.hid (bl_trans (bl_alloc bb.out _) ho2.2); replace HA0 := Lib.hid ((HA0.out.below (bl_alloc (Below.refl _ _) _)).below ho2.2); replace HH0 := Lib.hid ((HH0.out.below (bl_alloc (Below.refl _ _) _)).below ho2.2); obtain ⟨hl2a, hl2b⟩ := hlim2; clear ho2 hg2 rd2 HOW HTM)
        have HLC : Hid (Lim (skipR wv1.heap.size n 0 :: l)) := Lib.hid (skip_lim HLM.out _ _ _)
        refine (HS.out.run (skipR wv1.heap.size n 0 :: l) h _ _ (1 + n) d2_ hn hc _ _ _ _ s1 s2 s3 s4 gn3 0 RC.out hl2a hl2b HLC.out (by omega) HH0.out (by omega) (HRC.out _) d1 d2 d3 d4 d5 rfl).mono ?_
        rintro e wv3 ⟨Aa1, ca1, Aa2, ca2, Aa3, ca3, Aa4, ca4, Ga, gca, rfl, ho, hg, b_⟩
        replace HA0 := Lib.hid (HA0.out.below b_)
        replace HH0 := Lib.hid (HH0.out.below b_)
        replace RC := Lib.hid (RC.out.below b_)
        replace bb := Lib.hid (bl_trans bb.out b_)
        have OAa := Lib.hid ho
        have GRa := Lib.hid hg
        clear b_ ho hg
        clear RC
        have Ba : Hid (w.heap.size ≤ wv3.heap.size) := Lib.hid bb.out.size
        obtain ⟨wv4, hwv4⟩ : ∃ W, W = wv3.alloc (.cells #[.int .i64 p.kind, .int .i64 p.why, .slice Aa1 s1 ca1, .slice Aa2 s2 ca2, .slice Aa3 s3 ca3, .slice Aa4 s4 ca4] 30) := ⟨_, rfl⟩
        have b_ : Below wv3.heap.size wv3 wv4 := by rw [hwv4]; exact bl_alloc (Below.refl _ _) _
        replace HA0 := Lib.hid (HA0.out.below b_)
        replace HH0 := Lib.hid (HH0.out.below b_)
        replace OAa := Lib.hid (OAa.out.below b_)
        replace GRa := Lib.hid (GRa.out.below b_)
        replace bb := Lib.hid (bl_trans bb.out b_)
        clear b_
        have Ka : Hid (Blk wv4 wv3.heap.size 30 #[.int .i64 p.kind, .int .i64 p.why, .slice Aa1 s1 ca1, .slice Aa2 s2 ca2, .slice Aa3 s3 ca3, .slice Aa4 s4 ca4]) := Lib.hid (by rw [hwv4]; exact Blk.new _ _ _)
        go_wp2_with fail
        rw [← hwv4]
        clear hwv4
        refine (HS.out.run l h _ _ n c hn hc _ _ _ _ r1 r2 r3 r4 gn 0 HA0.out hnc cm HLM.out (by omega) HH0.out (by omega) HRA.out e1 e2 e3 e4 e5 rfl).mono ?_
        rintro e wv5 ⟨Ab1, cb1, Ab2, cb2, Ab3, cb3, Ab4, cb4, Gb, gcb, rfl, ho, hg, b_⟩
        replace HA0 := Lib.hid (HA0.out.below b_)
        replace HH0 := Lib.hid (HH0.out.below b_)
        replace OAa := Lib.hid (OAa.out.below b_)
        replace GRa := Lib.hid (GRa.out.below b_)
        replace Ka := Lib.hid (Ka.out.below b_)
        replace bb := Lib.hid (bl_trans bb.out b_)
        have OAb := Lib.hid ho
        have GRb := Lib.hid hg
        clear b_ ho hg
        clear HA0 OAb GRb
        have LWOAa := Lib.hid (OAa.out.lw (Nat.le_refl _))
        have LWGRa := Lib.hid (rd_lw GRa.out (by decide) (Nat.le_refl _))
        have NEba : Hid (wv5.heap.size ≠ wv3.heap.size) := Lib.hid (by have := Ka.out.lt; omega)
        have Bb : Hid (w.heap.size ≤ wv5.heap.size) := Lib.hid bb.out.size
        obtain ⟨wv6, hwv6⟩ : ∃ W, W = wv5.alloc (.cells #[.int .i64 o.kind, .int .i64 o.why, .slice Ab1 r1 cb1, .slice Ab2 r2 cb2, .slice Ab3 r3 cb3, .slice Ab4 r4 cb4] 30) := ⟨_, rfl⟩
        have b_ : Below wv5.heap.size wv5 wv6 := by rw [hwv6]; exact bl_alloc (Below.refl _ _) _
        replace HH0 := Lib.hid (HH0.out.below b_)
        replace OAa := Lib.hid (OAa.out.below b_)
        replace GRa := Lib.hid (GRa.out.below b_)
        replace Ka := Lib.hid (Ka.out.below b_)
        replace bb := Lib.hid (bl_trans bb.out b_)
        clear b_
        have Kb : Hid (Blk wv6 wv5.heap.size 30 #[.int .i64 o.kind, .int .i64 o.why, .slice Ab1 r1 cb1, .slice Ab2 r2 cb2, .slice Ab3 r3 cb3, .slice Ab4 r4 cb4]) := Lib.hid (by rw [hwv6]; exact Blk.new _ _ _)
        go_wp2_with fail
        rw [← hwv6]
        clear hwv6
        have LTb : Hid (wv5.heap.size < wv6.heap.size) := Lib.hid Kb.out.lt
        refine (HS.out.runN [] h _ _ 0 0 hn hc _ _ _ _ s1 s2 s3 s4 gn3 0 ⟨Rd.none_, fun r hr => by cases hr⟩ (Nat.le_refl _) (by omega) NLIM.out (by omega) HH0.out (by omega) HRN.out d1 d2 d3 d4 d5 rfl).mono ?_
        rintro e wv7 ⟨Ac1, cc1, Ac2, cc2, Ac3, cc3, Ac4, cc4, Gc, gcc, rfl, ho, hg, b_, hnw⟩
        replace HH0 := Lib.hid (HH0.out.below b_)
        replace OAa := Lib.hid (OAa.out.below b_)
        replace GRa := Lib.hid (GRa.out.below b_)
        replace Ka := Lib.hid (Ka.out.below b_)
        replace Kb := Lib.hid (Kb.out.below b_)
        replace bb := Lib.hid (bl_trans bb.out b_)
        have OAc := Lib.hid ho
        have GRc := Lib.hid hg
        clear b_ ho hg
        have NWc := Lib.hid hnw
        clear hnw
        clear HH0
        have kz0 := Kb.out.cell 0 _ rfl
        have kz1 := Kb.out.cell 1 _ rfl
        have kz2 := Kb.out.cell 2 _ rfl
        have kz3 := Kb.out.cell 3 _ rfl
        have kz4 := Kb.out.cell 4 _ rfl
        have kz5 := Kb.out.cell 5 _ rfl
        have kzf := Kb.out.frozen
        obtain ⟨wv8, hwv8⟩ : ∃ W, W = ((((((wv7.setCell ⟨wv5.heap.size, 0, none⟩ (.int .i64 p.kind)).setCell ⟨wv5.heap.size, 1, none⟩ (.int .i64 p.why)).setCell ⟨wv5.heap.size, 2, none⟩ (.slice Ac1 s1 cc1)).setCell ⟨wv5.heap.size, 3, none⟩ (.slice Ac2 s2 cc2)).setCell ⟨wv5.heap.size, 4, none⟩ (.slice Ac3 s3 cc3)).setCell ⟨wv5.heap.size, 5, none⟩ (.slice Ac4 s4 cc4)) := ⟨_, rfl⟩
        replace bb : Hid (Below w.heap.size w wv8) := Lib.hid (by rw [hwv8]; exact six_bel bb.out Bb.out (.int .i64 p.kind) (.int .i64 p.why) (.slice Ac1 s1 cc1) (.slice Ac2 s2 cc2) (.slice Ac3 s3 cc3) (.slice Ac4 s4 cc4))
        have Kc_ : Hid (Blk wv8 wv5.heap.size 30 #[.int .i64 p.kind, .int .i64 p.why, .slice Ac1 s1 cc1, .slice Ac2 s2 cc2, .slice Ac3 s3 cc3, .slice Ac4 s4 cc4]) := Lib.hid (by rw [hwv8]; exact six_blk_put Kb.out (.int .i64 p.kind) (.int .i64 p.why) (.slice Ac1 s1 cc1) (.slice Ac2 s2 cc2) (.slice Ac3 s3 cc3) (.slice Ac4 s4 cc4))
        replace Ka : Hid (Blk wv8 wv3.heap.size 30 #[.int .i64 p.kind, .int .i64 p.why, .slice Aa1 s1 ca1, .slice Aa2 s2 ca2, .slice Aa3 s3 ca3, .slice Aa4 s4 ca4]) := Lib.hid (by rw [hwv8]; exact six_blk_ne Ka.out NEba.out (.int .i64 p.kind) (.int .i64 p.why) (.slice Ac1 s1 cc1) (.slice Ac2 s2 cc2) (.slice Ac3 s3 cc3) (.slice Ac4 s4 cc4))
        have OAa_ := Lib.hid (OAa.out.six LWOAa.out (.int .i64 p.kind) (.int .i64 p.why) (.slice Ac1 s1 cc1) (.slice Ac2 s2 cc2) (.slice Ac3 s3 cc3) (.slice Ac4 s4 cc4))
        rw [← hwv8] at OAa_
        have GRa_ := Lib.hid (six_lw GRa.out LWGRa.out (.int .i64 p.kind) (.int .i64 p.why) (.slice Ac1 s1 cc1) (.slice Ac2 s2 cc2) (.slice Ac3 s3 cc3) (.slice Ac4 s4 cc4))
        rw [← hwv8] at GRa_
        have OAc_ := Lib.hid (OAc.out.six_new NWc.out LTb.out (.int .i64 p.kind) (.int .i64 p.why) (.slice Ac1 s1 cc1) (.slice Ac2 s2 cc2) (.slice Ac3 s3 cc3) (.slice Ac4 s4 cc4))
        rw [← hwv8] at OAc_
        have GRc_ := Lib.hid (six_nw GRc.out NWc.out.2.2.2.2 LTb.out (.int .i64 p.kind) (.int .i64 p.why) (.slice Ac1 s1 cc1) (.slice Ac2 s2 cc2) (.slice Ac3 s3 cc3) (.slice Ac4 s4 cc4))
        rw [← hwv8] at GRc_
        clear Kb OAc GRc OAa GRa
        go_wp2_with fail
        rw [← hwv8]
        clear hwv8 kz0 kz1 kz2 kz3 kz4 kz5 kzf
        have KEEP : Hid (∀ W, Below wv8.heap.size wv8 W → W.cell? ⟨wv3.heap.size, 0, none⟩ = some (.int .i64 p.kind) ∧ W.cell? ⟨wv3.heap.size, 1, none⟩ = some (.int .i64 p.why) ∧ W.cell? ⟨wv3.heap.size, 2, none⟩ = some (.slice Aa1 s1 ca1) ∧ W.cell? ⟨wv3.heap.size, 3, none⟩ = some (.slice Aa2 s2 ca2) ∧ W.cell? ⟨wv3.heap.size, 4, none⟩ = some (.slice Aa3 s3 ca3) ∧ W.cell? ⟨wv3.heap.size, 5, none⟩ = some (.slice Aa4 s4 ca4) ∧ W.cell? ⟨wv5.heap.size, 0, none⟩ = some (.int .i64 p.kind) ∧ W.cell? ⟨wv5.heap.size, 1, none⟩ = some (.int .i64 p.why) ∧ W.cell? ⟨wv5.heap.size, 2, none⟩ = some (.slice Ac1 s1 cc1) ∧ W.cell? ⟨wv5.heap.size, 3, none⟩ = some (.slice Ac2 s2 cc2) ∧ W.cell? ⟨wv5.heap.size, 4, none⟩ = some (.slice Ac3 s3 cc3) ∧ W.cell? ⟨wv5.heap.size, 5, none⟩ = some (.slice Ac4 s4 cc4)) := Lib.hid (fun W h => ⟨(Ka.out.below h).cell 0 _ rfl, (Ka.out.below h).cell 1 _ rfl, (Ka.out.below h).cell 2 _ rfl, (Ka.out.below h).cell 3 _ rfl, (Ka.out.below h).cell 4 _ rfl, (Ka.out.below h).cell 5 _ rfl, (Kc_.out.below h).cell 0 _ rfl, (Kc_.out.below h).cell 1 _ rfl, (Kc_.out.below h).cell 2 _ rfl, (Kc_.out.below h).cell 3 _ rfl, (Kc_.out.below h).cell 4 _ rfl, (Kc_.out.below h).cell 5 _ rfl⟩)
        have bq : Hid (Below wv8.heap.size wv8 wv8.drew) := Lib.hid (Below.refl _ _).drew
        go_wp2_with fail
        try simp only [List.append_eq, List.cons_append, List.nil_append]
        refine wp_region_held_drew (S := fun (W : World) => W.cell? ⟨wv3.heap.size, 0, none⟩ = some (.int .i64 p.kind) ∧ W.cell? ⟨wv3.heap.size, 1, none⟩ = some (.int .i64 p.why) ∧ W.cell? ⟨wv3.heap.size, 2, none⟩ = some (.slice Aa1 s1 ca1) ∧ W.cell? ⟨wv3.heap.size, 3, none⟩ = some (.slice Aa2 s2 ca2) ∧ W.cell? ⟨wv3.heap.size, 4, none⟩ = some (.slice Aa3 s3 ca3) ∧ W.cell? ⟨wv3.heap.size, 5, none⟩ = some (.slice Aa4 s4 ca4) ∧ W.cell? ⟨wv5.heap.size, 0, none⟩ = some (.int .i64 p.kind) ∧ W.cell? ⟨wv5.heap.size, 1, none⟩ = some (.int .i64 p.why) ∧ W.cell? ⟨wv5.heap.size, 2, none⟩ = some (.slice Ac1 s1 cc1) ∧ W.cell? ⟨wv5.heap.size, 3, none⟩ = some (.slice Ac2 s2 cc2) ∧ W.cell? ⟨wv5.heap.size, 4, none⟩ = some (.slice Ac3 s3 cc3) ∧ W.cell? ⟨wv5.heap.size, 5, none⟩ = some (.slice Ac4 s4 cc4)) (by kernel_rfl) (KEEP.out _ bq.out) (fun hHeld0 => ?_)
        refine wpAnyH_take (i := 0) (v := .agg #[.int .i64 p.kind, .int .i64 p.why, .slice Aa1 s1 ca1, .slice Aa2 s2 ca2, .slice Aa3 s3 ca3, .slice Aa4 s4 ca4]) rfl (by kernel_rfl) (by kernel_rfl) (by kernel_rfl) (fun _ _ _ h => h) (Or.inl ⟨by kernel_rfl, fun W hS => by obtain ⟨k_0, k_1, k_2, k_3, k_4, k_5, k_6, k_7, k_8, k_9, k_10, k_11⟩ := hS; go_simp⟩) hHeld0 ?_
        try simp only [Act.put]
        try simp only [List.setIfInBounds_toArray]
        try simp only [List.set_cons_succ]
        try simp only [List.set_cons_zero]
        refine wpAnyH_take (i := 2) (v := .agg #[.int .i64 p.kind, .int .i64 p.why, .slice Ac1 s1 cc1, .slice Ac2 s2 cc2, .slice Ac3 s3 cc3, .slice Ac4 s4 cc4]) rfl (by kernel_rfl) (by kernel_rfl) (by kernel_rfl) (fun _ _ _ h => h) (Or.inl ⟨by kernel_rfl, fun W hS => by obtain ⟨k_0, k_1, k_2, k_3, k_4, k_5, k_6, k_7, k_8, k_9, k_10, k_11⟩ := hS; go_simp⟩) hHeld0 ?_
        try simp only [Act.put]
        try simp only [List.setIfInBounds_toArray]
        try simp only [List.set_cons_succ]
        try simp only [List.set_cons_zero]
        refine wpAnyH_ready (rs := [1]) (by kernel_rfl) (by simp) ?_
        refine AllReadyH.cons rfl (fun KK0 hK => ?_) AllReadyH.nil
        rw [if_pos (by kernel_rfl)]
        refine calls_wp 12 #[.agg #[.int .i64 p.kind, .int .i64 p.why, .slice Aa1 s1 ca1, .slice Aa2 s2 ca2, .slice Aa3 s3 ca3, .slice Aa4 s4 ca4]] _ (ref_m _ _ _ _ _ _ _ _ _ _ _ _ _ _ _) (run_call _ _ _ rfl rfl Try.func12 (by kernel_rfl) (by kernel_rfl) _ (by kernel_rfl)) ?_
        rintro e wq ⟨rfl, b_⟩
        refine ⟨_, rfl, ?_⟩
        replace bq := Lib.hid (bl_trans bq.out b_)
        clear b_
        refine hK.out _ _ (KEEP.out _ bq.out) (fun hHeld1 => ?_)
        clear hHeld0 hK KK0
        try simp only [Act.put]
        try simp only [List.setIfInBounds_toArray]
        try simp only [List.set_cons_succ]
        try simp only [List.set_cons_zero]
        refine wpAnyH_ready (rs := [3]) (by kernel_rfl) (by simp) ?_
        refine AllReadyH.cons rfl (fun KK0 hK => ?_) AllReadyH.nil
        rw [if_pos (by kernel_rfl)]
        refine calls_wp 12 #[.agg #[.int .i64 p.kind, .int .i64 p.why, .slice Ac1 s1 cc1, .slice Ac2 s2 cc2, .slice Ac3 s3 cc3, .slice Ac4 s4 cc4]] _ (ref_m _ _ _ _ _ _ _ _ _ _ _ _ _ _ _) (run_call _ _ _ rfl rfl Try.func12 (by kernel_rfl) (by kernel_rfl) _ (by kernel_rfl)) ?_
        rintro e wq ⟨rfl, b_⟩
        refine ⟨_, rfl, ?_⟩
        replace bq := Lib.hid (bl_trans bq.out b_)
        clear b_
        refine hK.out _ _ (KEEP.out _ bq.out) (fun hHeld2 => ?_)
        clear hHeld1 hK KK0
        try simp only [Act.put]
        try simp only [List.setIfInBounds_toArray]
        try simp only [List.set_cons_succ]
        try simp only [List.set_cons_zero]
        refine wpAnyH_ready (rs := [4]) (by kernel_rfl) (by simp) ?_
        refine AllReadyH.cons rfl (fun KK0 hK => ?_) AllReadyH.nil
        rw [if_pos (by kernel_rfl)]
        refine calls_wp 11 #[.agg #[.int .i64 p.kind, .int .i64 p.why, .slice Aa1 s1 ca1, .slice Aa2 s2 ca2, .slice Aa3 s3 ca3, .slice Aa4 s4 ca4], .agg #[.int .i64 p.kind, .int .i64 p.why, .slice Ac1 s1 cc1, .slice Ac2 s2 cc2, .slice Ac3 s3 cc3, .slice Ac4 s4 cc4]] _ (same_r p _ _ _ _ _ _ _ _ s1 s2 s3 s4 _ _ _ _ _ _ _ _ _ (OAa_.out.below bq.out) (OAc_.out.below bq.out) (by omega) (by omega) (by omega) (by omega)) (run_call _ _ _ rfl rfl Try.func11 (by kernel_rfl) (by kernel_rfl) _ (by kernel_rfl)) ?_
        rintro e wq ⟨rfl, b_⟩
        refine ⟨_, rfl, ?_⟩
        replace bq := Lib.hid (bl_trans bq.out b_)
        clear b_
        refine hK.out _ _ (KEEP.out _ bq.out) (fun hHeld3 => ?_)
        clear hHeld2 hK KK0
        try simp only [Act.put]
        try simp only [List.setIfInBounds_toArray]
        try simp only [List.set_cons_succ]
        try simp only [List.set_cons_zero]
        refine wpAnyH_take (i := 5) (v := .bool true) rfl (by kernel_rfl) (by kernel_rfl) (by kernel_rfl) (fun _ _ _ h => h) (Or.inl ⟨by kernel_rfl, fun W hS => by go_simp⟩) hHeld3 ?_
        try simp only [Act.put]
        try simp only [List.setIfInBounds_toArray]
        try simp only [List.set_cons_succ]
        try simp only [List.set_cons_zero]
        refine wpAnyH_take (i := 6) (v := .slice Ga gn3 gca) rfl (by kernel_rfl) (by kernel_rfl) (by kernel_rfl) (fun _ _ _ h => h) (Or.inl ⟨by kernel_rfl, fun W hS => by go_simp⟩) hHeld3 ?_
        try simp only [Act.put]
        try simp only [List.setIfInBounds_toArray]
        try simp only [List.set_cons_succ]
        try simp only [List.set_cons_zero]
        refine wpAnyH_take (i := 7) (v := .slice Gc gn3 gcc) rfl (by kernel_rfl) (by kernel_rfl) (by kernel_rfl) (fun _ _ _ h => h) (Or.inl ⟨by kernel_rfl, fun W hS => by go_simp⟩) hHeld3 ?_
        try simp only [Act.put]
        try simp only [List.setIfInBounds_toArray]
        try simp only [List.set_cons_succ]
        try simp only [List.set_cons_zero]
        refine wpAnyH_ready (rs := [8]) (by kernel_rfl) (by simp) ?_
        refine AllReadyH.cons rfl (fun KK0 hK => ?_) AllReadyH.nil
        rw [if_pos (by kernel_rfl)]
        refine calls_wp 13 #[.slice Ga gn3 gca, .slice Gc gn3 gcc] _ (Heap.same_b g3 g3 _ _ _ _ _ _ _ true (GRa_.out.below bq.out) (GRc_.out.below bq.out) (by omega) (by omega) (decide_eq_true rfl)) (run_call _ _ _ rfl rfl Try.func13 (by kernel_rfl) (by kernel_rfl) _ (by kernel_rfl)) ?_
        rintro e wq ⟨rfl, b_⟩
        refine ⟨_, rfl, ?_⟩
        replace bq := Lib.hid (bl_trans bq.out b_)
        clear b_
        refine hK.out _ _ (KEEP.out _ bq.out) (fun hHeld4 => ?_)
        clear hHeld3 hK KK0
        try simp only [Act.put]
        try simp only [List.setIfInBounds_toArray]
        try simp only [List.set_cons_succ]
        try simp only [List.set_cons_zero]
        refine wpAnyH_take (i := 9) (v := .bool true) rfl (by kernel_rfl) (by kernel_rfl) (by kernel_rfl) (fun _ _ _ h => h) (Or.inl ⟨by kernel_rfl, fun W hS => by go_simp⟩) hHeld4 ?_
        try simp only [Act.put]
        try simp only [List.setIfInBounds_toArray]
        try simp only [List.set_cons_succ]
        try simp only [List.set_cons_zero]
        refine wpAnyH_take (i := 10) (v := .bool true) rfl (by kernel_rfl) (by kernel_rfl) (by kernel_rfl) (fun _ _ _ h => h) (Or.inl ⟨by kernel_rfl, fun W hS => by go_simp⟩) hHeld4 ?_
        try simp only [Act.put]
        try simp only [List.setIfInBounds_toArray]
        try simp only [List.set_cons_succ]
        try simp only [List.set_cons_zero]
        refine wpAnyH_ready (rs := [11]) (by kernel_rfl) (by simp) ?_
        refine AllReadyH.cons rfl (fun KK0 hK => ?_) AllReadyH.nil
        rw [if_pos (by kernel_rfl)]
        refine calls_wp 9 #[] _ (awake_any HS.out _) (run_call _ _ _ rfl rfl Try.func9 (by kernel_rfl) (by kernel_rfl) _ (by kernel_rfl)) ?_
        rintro e wq ⟨rfl, b_⟩
        refine ⟨_, rfl, ?_⟩
        replace bq := Lib.hid (bl_trans bq.out b_)
        clear b_
        refine hK.out _ _ (KEEP.out _ bq.out) (fun hHeld5 => ?_)
        clear hHeld4 hK KK0
        try simp only [Act.put]
        try simp only [List.setIfInBounds_toArray]
        try simp only [List.set_cons_succ]
        try simp only [List.set_cons_zero]
        refine wpAnyH_take (i := 12) (v := .bool true) rfl (by kernel_rfl) (by kernel_rfl) (by kernel_rfl) (fun _ _ _ h => h) (Or.inl ⟨by kernel_rfl, fun W hS => by go_simp⟩) hHeld5 ?_
        try simp only [Act.put]
        try simp only [List.setIfInBounds_toArray]
        try simp only [List.set_cons_succ]
        try simp only [List.set_cons_zero]
        refine wpAnyH_ready (rs := [13]) (by kernel_rfl) (by simp) ?_
        refine AllReadyH.cons rfl (fun KK0 hK => ?_) AllReadyH.nil
        go_simp
        refine hK.out _ _ (KEEP.out _ bq.out) (fun hHeld6 => ?_)
        clear hHeld5 hK KK0
        try simp only [Act.put]
        try simp only [List.setIfInBounds_toArray]
        try simp only [List.set_cons_succ]
        try simp only [List.set_cons_zero]
        refine wpAnyH_done (by kernel_rfl) ?_ _
        replace bb := Lib.hid (bl_trans bb.out bq.out)
        go_wp2
        go_ret
        exact ⟨rfl, bb.out⟩
      · have hv1 : (v == 0) = false := beq_eq_false_iff_ne.2 hv0
        rw [if_neg hv0] at k2
        have HRC : Hid (∀ z, runS (ss (skipR z n v :: l)) h = (o, g, true)) := Lib.hid (fun z => by rw [hss]; exact k2 rfl)
        clear k1 k2 k3 hss hrun hrn
        go_enter Try.func7, Try.ntmps7
        go_wp2_with fail
        refine (small_c l _ _ _ _ (n : Int) HA0.out mn HSM.out).mono ?_
        rintro e wv1 ⟨rfl, b_⟩
        replace HA0 := Lib.hid (HA0.out.below b_)
        replace HH0 := Lib.hid (HH0.out.below b_)
        replace bb := Lib.hid (bl_trans bb.out b_)
        clear b_
        have HTM : Hid (Rd (wv1.alloc (.cells #[.int .i64 1, .int .i64 v] 49)) 2 (some ⟨wv1.heap.size, 0, none⟩) 1 (Term.ops [⟨1, v⟩])) := Lib.hid (Rd.built _ 2 1 (Term.ops [⟨1, v⟩]) _ rfl)
        have hs1 : (wv1.alloc (.cells #[.int .i64 1, .int .i64 v] 49)).heap.size = wv1.heap.size + 1 := by simp
        have HOW : Hid (Own (wv1.alloc (.cells #[.int .i64 1, .int .i64 v] 49)) ((wv1.alloc (.cells #[.int .i64 1, .int .i64 v] 49)).alloc (.cells #[.int .i64 4, .int .i64 (n : Int), .int .i64 0, .slice (some ⟨wv1.heap.size, 0, none⟩) 1 1] 46)) 46 4 (.slice (some ⟨wv1.heap.size + 1, 0, none⟩) 1 1) 1 (rs [skipR wv1.heap.size n v])) := Lib.hid (by
          have h1 := own_built (wv1.alloc (.cells #[.int .i64 1, .int .i64 v] 49)) 46 4 1 (rs [skipR wv1.heap.size n v]) rfl (by decide)
          rw [hs1] at h1
          exact h1)
        clear hs1
        go_wp2_with (at_builtin; refine append_rd rfl _ _ 22 rfl tStep (wv1.alloc (.cells #[.int .i64 1, .int .i64 v] 49)) (.slice (some ⟨wv1.heap.size + 1, 0, none⟩) 1 1) 1 (rs [skipR wv1.heap.size n v]) rfl HOW.out A n c (rs l) rfl ((HA0.out.1.alloc _).alloc _) (rs_one _) (by omega) (by omega) ?_; intro v2 wv2 ho2 hg2; obtain ⟨B2, d2_, rfl, hcap2, rd2⟩ := own_room ho2; have hlim2 := own_lim ho2; have RC : Hid (At wv2 B2 (1 + n) (skipR wv1.heap.size n v :: l)) := Lib.hid (skip_at rd2 (HTM.out.below ho2.2) ((HA0.out.2.below (bl_alloc (Below.refl _ _) _)).below ho2.2)); replace bb := Lib.hid (bl_trans (bl_alloc bb.out _) ho2.2); replace HA0 := Lib.hid ((HA0.out.below (bl_alloc (Below.refl _ _) _)).below ho2.2); replace HH0 := Lib.hid ((HH0.out.below (bl_alloc (Below.refl _ _) _)).below ho2.2); obtain ⟨hl2a, hl2b⟩ := hlim2; clear ho2 hg2 rd2 HOW HTM)
        have HLC : Hid (Lim (skipR wv1.heap.size n v :: l)) := Lib.hid (skip_lim HLM.out _ _ _)
        refine (HS.out.run (skipR wv1.heap.size n v :: l) h _ _ (1 + n) d2_ hn hc _ _ _ _ r1 r2 r3 r4 gn 0 RC.out hl2a hl2b HLC.out (by omega) HH0.out (by omega) (HRC.out _) e1 e2 e3 e4 e5 rfl).mono ?_
        rintro e wv3 ⟨Aa1, ca1, Aa2, ca2, Aa3, ca3, Aa4, ca4, Ga, gca, rfl, ho, hg, b_⟩
        replace HA0 := Lib.hid (HA0.out.below b_)
        replace HH0 := Lib.hid (HH0.out.below b_)
        replace RC := Lib.hid (RC.out.below b_)
        replace bb := Lib.hid (bl_trans bb.out b_)
        have OAa := Lib.hid ho
        have GRa := Lib.hid hg
        clear b_ ho hg
        clear RC
        have Ba : Hid (w.heap.size ≤ wv3.heap.size) := Lib.hid bb.out.size
        obtain ⟨wv4, hwv4⟩ : ∃ W, W = wv3.alloc (.cells #[.int .i64 o.kind, .int .i64 o.why, .slice Aa1 r1 ca1, .slice Aa2 r2 ca2, .slice Aa3 r3 ca3, .slice Aa4 r4 ca4] 30) := ⟨_, rfl⟩
        have b_ : Below wv3.heap.size wv3 wv4 := by rw [hwv4]; exact bl_alloc (Below.refl _ _) _
        replace HA0 := Lib.hid (HA0.out.below b_)
        replace HH0 := Lib.hid (HH0.out.below b_)
        replace OAa := Lib.hid (OAa.out.below b_)
        replace GRa := Lib.hid (GRa.out.below b_)
        replace bb := Lib.hid (bl_trans bb.out b_)
        clear b_
        have Ka : Hid (Blk wv4 wv3.heap.size 30 #[.int .i64 o.kind, .int .i64 o.why, .slice Aa1 r1 ca1, .slice Aa2 r2 ca2, .slice Aa3 r3 ca3, .slice Aa4 r4 ca4]) := Lib.hid (by rw [hwv4]; exact Blk.new _ _ _)
        go_wp2_with fail
        rw [← hwv4]
        clear hwv4
        refine (HS.out.run l h _ _ n c hn hc _ _ _ _ r1 r2 r3 r4 gn 0 HA0.out hnc cm HLM.out (by omega) HH0.out (by omega) HRA.out e1 e2 e3 e4 e5 rfl).mono ?_
        rintro e wv5 ⟨Ab1, cb1, Ab2, cb2, Ab3, cb3, Ab4, cb4, Gb, gcb, rfl, ho, hg, b_⟩
        replace HA0 := Lib.hid (HA0.out.below b_)
        replace HH0 := Lib.hid (HH0.out.below b_)
        replace OAa := Lib.hid (OAa.out.below b_)
        replace GRa := Lib.hid (GRa.out.below b_)
        replace Ka := Lib.hid (Ka.out.below b_)
        replace bb := Lib.hid (bl_trans bb.out b_)
        have OAb := Lib.hid ho
        have GRb := Lib.hid hg
        clear b_ ho hg
        clear HA0 HH0
        have Bb : Hid (w.heap.size ≤ wv5.heap.size) := Lib.hid bb.out.size
        obtain ⟨wv6, hwv6⟩ : ∃ W, W = wv5.alloc (.cells #[.int .i64 o.kind, .int .i64 o.why, .slice Ab1 r1 cb1, .slice Ab2 r2 cb2, .slice Ab3 r3 cb3, .slice Ab4 r4 cb4] 30) := ⟨_, rfl⟩
        have b_ : Below wv5.heap.size wv5 wv6 := by rw [hwv6]; exact bl_alloc (Below.refl _ _) _
        replace OAa := Lib.hid (OAa.out.below b_)
        replace GRa := Lib.hid (GRa.out.below b_)
        replace Ka := Lib.hid (Ka.out.below b_)
        replace OAb := Lib.hid (OAb.out.below b_)
        replace GRb := Lib.hid (GRb.out.below b_)
        replace bb := Lib.hid (bl_trans bb.out b_)
        clear b_
        have Kb : Hid (Blk wv6 wv5.heap.size 30 #[.int .i64 o.kind, .int .i64 o.why, .slice Ab1 r1 cb1, .slice Ab2 r2 cb2, .slice Ab3 r3 cb3, .slice Ab4 r4 cb4]) := Lib.hid (by rw [hwv6]; exact Blk.new _ _ _)
        go_wp2_with fail
        rw [← hwv6]
        clear hwv6
        have KEEP : Hid (∀ W, Below wv6.heap.size wv6 W → W.cell? ⟨wv3.heap.size, 0, none⟩ = some (.int .i64 o.kind) ∧ W.cell? ⟨wv3.heap.size, 1, none⟩ = some (.int .i64 o.why) ∧ W.cell? ⟨wv3.heap.size, 2, none⟩ = some (.slice Aa1 r1 ca1) ∧ W.cell? ⟨wv3.heap.size, 3, none⟩ = some (.slice Aa2 r2 ca2) ∧ W.cell? ⟨wv3.heap.size, 4, none⟩ = some (.slice Aa3 r3 ca3) ∧ W.cell? ⟨wv3.heap.size, 5, none⟩ = some (.slice Aa4 r4 ca4) ∧ W.cell? ⟨wv5.heap.size, 0, none⟩ = some (.int .i64 o.kind) ∧ W.cell? ⟨wv5.heap.size, 1, none⟩ = some (.int .i64 o.why) ∧ W.cell? ⟨wv5.heap.size, 2, none⟩ = some (.slice Ab1 r1 cb1) ∧ W.cell? ⟨wv5.heap.size, 3, none⟩ = some (.slice Ab2 r2 cb2) ∧ W.cell? ⟨wv5.heap.size, 4, none⟩ = some (.slice Ab3 r3 cb3) ∧ W.cell? ⟨wv5.heap.size, 5, none⟩ = some (.slice Ab4 r4 cb4)) := Lib.hid (fun W h => ⟨(Ka.out.below h).cell 0 _ rfl, (Ka.out.below h).cell 1 _ rfl, (Ka.out.below h).cell 2 _ rfl, (Ka.out.below h).cell 3 _ rfl, (Ka.out.below h).cell 4 _ rfl, (Ka.out.below h).cell 5 _ rfl, (Kb.out.below h).cell 0 _ rfl, (Kb.out.below h).cell 1 _ rfl, (Kb.out.below h).cell 2 _ rfl, (Kb.out.below h).cell 3 _ rfl, (Kb.out.below h).cell 4 _ rfl, (Kb.out.below h).cell 5 _ rfl⟩)
        have bq : Hid (Below wv6.heap.size wv6 wv6.drew) := Lib.hid (Below.refl _ _).drew
        go_wp2_with fail
        try simp only [List.append_eq, List.cons_append, List.nil_append]
        refine wp_region_held_drew (S := fun (W : World) => W.cell? ⟨wv3.heap.size, 0, none⟩ = some (.int .i64 o.kind) ∧ W.cell? ⟨wv3.heap.size, 1, none⟩ = some (.int .i64 o.why) ∧ W.cell? ⟨wv3.heap.size, 2, none⟩ = some (.slice Aa1 r1 ca1) ∧ W.cell? ⟨wv3.heap.size, 3, none⟩ = some (.slice Aa2 r2 ca2) ∧ W.cell? ⟨wv3.heap.size, 4, none⟩ = some (.slice Aa3 r3 ca3) ∧ W.cell? ⟨wv3.heap.size, 5, none⟩ = some (.slice Aa4 r4 ca4) ∧ W.cell? ⟨wv5.heap.size, 0, none⟩ = some (.int .i64 o.kind) ∧ W.cell? ⟨wv5.heap.size, 1, none⟩ = some (.int .i64 o.why) ∧ W.cell? ⟨wv5.heap.size, 2, none⟩ = some (.slice Ab1 r1 cb1) ∧ W.cell? ⟨wv5.heap.size, 3, none⟩ = some (.slice Ab2 r2 cb2) ∧ W.cell? ⟨wv5.heap.size, 4, none⟩ = some (.slice Ab3 r3 cb3) ∧ W.cell? ⟨wv5.heap.size, 5, none⟩ = some (.slice Ab4 r4 cb4)) (by kernel_rfl) (KEEP.out _ bq.out) (fun hHeld0 => ?_)
        refine wpAnyH_take (i := 0) (v := .agg #[.int .i64 o.kind, .int .i64 o.why, .slice Aa1 r1 ca1, .slice Aa2 r2 ca2, .slice Aa3 r3 ca3, .slice Aa4 r4 ca4]) rfl (by kernel_rfl) (by kernel_rfl) (by kernel_rfl) (fun _ _ _ h => h) (Or.inl ⟨by kernel_rfl, fun W hS => by obtain ⟨k_0, k_1, k_2, k_3, k_4, k_5, k_6, k_7, k_8, k_9, k_10, k_11⟩ := hS; go_simp⟩) hHeld0 ?_
        try simp only [Act.put]
        try simp only [List.setIfInBounds_toArray]
        try simp only [List.set_cons_succ]
        try simp only [List.set_cons_zero]
        refine wpAnyH_take (i := 2) (v := .agg #[.int .i64 o.kind, .int .i64 o.why, .slice Ab1 r1 cb1, .slice Ab2 r2 cb2, .slice Ab3 r3 cb3, .slice Ab4 r4 cb4]) rfl (by kernel_rfl) (by kernel_rfl) (by kernel_rfl) (fun _ _ _ h => h) (Or.inl ⟨by kernel_rfl, fun W hS => by obtain ⟨k_0, k_1, k_2, k_3, k_4, k_5, k_6, k_7, k_8, k_9, k_10, k_11⟩ := hS; go_simp⟩) hHeld0 ?_
        try simp only [Act.put]
        try simp only [List.setIfInBounds_toArray]
        try simp only [List.set_cons_succ]
        try simp only [List.set_cons_zero]
        refine wpAnyH_ready (rs := [1]) (by kernel_rfl) (by simp) ?_
        refine AllReadyH.cons rfl (fun KK0 hK => ?_) AllReadyH.nil
        rw [if_pos (by kernel_rfl)]
        refine calls_wp 12 #[.agg #[.int .i64 o.kind, .int .i64 o.why, .slice Aa1 r1 ca1, .slice Aa2 r2 ca2, .slice Aa3 r3 ca3, .slice Aa4 r4 ca4]] _ (ref_m _ _ _ _ _ _ _ _ _ _ _ _ _ _ _) (run_call _ _ _ rfl rfl Try.func12 (by kernel_rfl) (by kernel_rfl) _ (by kernel_rfl)) ?_
        rintro e wq ⟨rfl, b_⟩
        refine ⟨_, rfl, ?_⟩
        replace bq := Lib.hid (bl_trans bq.out b_)
        clear b_
        refine hK.out _ _ (KEEP.out _ bq.out) (fun hHeld1 => ?_)
        clear hHeld0 hK KK0
        try simp only [Act.put]
        try simp only [List.setIfInBounds_toArray]
        try simp only [List.set_cons_succ]
        try simp only [List.set_cons_zero]
        refine wpAnyH_ready (rs := [3]) (by kernel_rfl) (by simp) ?_
        refine AllReadyH.cons rfl (fun KK0 hK => ?_) AllReadyH.nil
        rw [if_pos (by kernel_rfl)]
        refine calls_wp 12 #[.agg #[.int .i64 o.kind, .int .i64 o.why, .slice Ab1 r1 cb1, .slice Ab2 r2 cb2, .slice Ab3 r3 cb3, .slice Ab4 r4 cb4]] _ (ref_m _ _ _ _ _ _ _ _ _ _ _ _ _ _ _) (run_call _ _ _ rfl rfl Try.func12 (by kernel_rfl) (by kernel_rfl) _ (by kernel_rfl)) ?_
        rintro e wq ⟨rfl, b_⟩
        refine ⟨_, rfl, ?_⟩
        replace bq := Lib.hid (bl_trans bq.out b_)
        clear b_
        refine hK.out _ _ (KEEP.out _ bq.out) (fun hHeld2 => ?_)
        clear hHeld1 hK KK0
        try simp only [Act.put]
        try simp only [List.setIfInBounds_toArray]
        try simp only [List.set_cons_succ]
        try simp only [List.set_cons_zero]
        refine wpAnyH_ready (rs := [4]) (by kernel_rfl) (by simp) ?_
        refine AllReadyH.cons rfl (fun KK0 hK => ?_) AllReadyH.nil
        rw [if_pos (by kernel_rfl)]
        refine calls_wp 11 #[.agg #[.int .i64 o.kind, .int .i64 o.why, .slice Aa1 r1 ca1, .slice Aa2 r2 ca2, .slice Aa3 r3 ca3, .slice Aa4 r4 ca4], .agg #[.int .i64 o.kind, .int .i64 o.why, .slice Ab1 r1 cb1, .slice Ab2 r2 cb2, .slice Ab3 r3 cb3, .slice Ab4 r4 cb4]] _ (same_r o _ _ _ _ _ _ _ _ r1 r2 r3 r4 _ _ _ _ _ _ _ _ _ (OAa.out.below bq.out) (OAb.out.below bq.out) (by omega) (by omega) (by omega) (by omega)) (run_call _ _ _ rfl rfl Try.func11 (by kernel_rfl) (by kernel_rfl) _ (by kernel_rfl)) ?_
        rintro e wq ⟨rfl, b_⟩
        refine ⟨_, rfl, ?_⟩
        replace bq := Lib.hid (bl_trans bq.out b_)
        clear b_
        refine hK.out _ _ (KEEP.out _ bq.out) (fun hHeld3 => ?_)
        clear hHeld2 hK KK0
        try simp only [Act.put]
        try simp only [List.setIfInBounds_toArray]
        try simp only [List.set_cons_succ]
        try simp only [List.set_cons_zero]
        refine wpAnyH_take (i := 5) (v := .bool true) rfl (by kernel_rfl) (by kernel_rfl) (by kernel_rfl) (fun _ _ _ h => h) (Or.inl ⟨by kernel_rfl, fun W hS => by go_simp⟩) hHeld3 ?_
        try simp only [Act.put]
        try simp only [List.setIfInBounds_toArray]
        try simp only [List.set_cons_succ]
        try simp only [List.set_cons_zero]
        refine wpAnyH_take (i := 6) (v := .slice Ga gn gca) rfl (by kernel_rfl) (by kernel_rfl) (by kernel_rfl) (fun _ _ _ h => h) (Or.inl ⟨by kernel_rfl, fun W hS => by go_simp⟩) hHeld3 ?_
        try simp only [Act.put]
        try simp only [List.setIfInBounds_toArray]
        try simp only [List.set_cons_succ]
        try simp only [List.set_cons_zero]
        refine wpAnyH_take (i := 7) (v := .slice Gb gn gcb) rfl (by kernel_rfl) (by kernel_rfl) (by kernel_rfl) (fun _ _ _ h => h) (Or.inl ⟨by kernel_rfl, fun W hS => by go_simp⟩) hHeld3 ?_
        try simp only [Act.put]
        try simp only [List.setIfInBounds_toArray]
        try simp only [List.set_cons_succ]
        try simp only [List.set_cons_zero]
        refine wpAnyH_ready (rs := [8]) (by kernel_rfl) (by simp) ?_
        refine AllReadyH.cons rfl (fun KK0 hK => ?_) AllReadyH.nil
        rw [if_pos (by kernel_rfl)]
        refine calls_wp 13 #[.slice Ga gn gca, .slice Gb gn gcb] _ (Heap.same_b g g _ _ _ _ _ _ _ true (GRa.out.below bq.out) (GRb.out.below bq.out) (by omega) (by omega) (decide_eq_true rfl)) (run_call _ _ _ rfl rfl Try.func13 (by kernel_rfl) (by kernel_rfl) _ (by kernel_rfl)) ?_
        rintro e wq ⟨rfl, b_⟩
        refine ⟨_, rfl, ?_⟩
        replace bq := Lib.hid (bl_trans bq.out b_)
        clear b_
        refine hK.out _ _ (KEEP.out _ bq.out) (fun hHeld4 => ?_)
        clear hHeld3 hK KK0
        try simp only [Act.put]
        try simp only [List.setIfInBounds_toArray]
        try simp only [List.set_cons_succ]
        try simp only [List.set_cons_zero]
        refine wpAnyH_take (i := 9) (v := .bool true) rfl (by kernel_rfl) (by kernel_rfl) (by kernel_rfl) (fun _ _ _ h => h) (Or.inl ⟨by kernel_rfl, fun W hS => by go_simp⟩) hHeld4 ?_
        try simp only [Act.put]
        try simp only [List.setIfInBounds_toArray]
        try simp only [List.set_cons_succ]
        try simp only [List.set_cons_zero]
        refine wpAnyH_take (i := 10) (v := .bool true) rfl (by kernel_rfl) (by kernel_rfl) (by kernel_rfl) (fun _ _ _ h => h) (Or.inl ⟨by kernel_rfl, fun W hS => by go_simp⟩) hHeld4 ?_
        try simp only [Act.put]
        try simp only [List.setIfInBounds_toArray]
        try simp only [List.set_cons_succ]
        try simp only [List.set_cons_zero]
        refine wpAnyH_ready (rs := [11]) (by kernel_rfl) (by simp) ?_
        refine AllReadyH.cons rfl (fun KK0 hK => ?_) AllReadyH.nil
        rw [if_pos (by kernel_rfl)]
        refine calls_wp 9 #[] _ (awake_any HS.out _) (run_call _ _ _ rfl rfl Try.func9 (by kernel_rfl) (by kernel_rfl) _ (by kernel_rfl)) ?_
        rintro e wq ⟨rfl, b_⟩
        refine ⟨_, rfl, ?_⟩
        replace bq := Lib.hid (bl_trans bq.out b_)
        clear b_
        refine hK.out _ _ (KEEP.out _ bq.out) (fun hHeld5 => ?_)
        clear hHeld4 hK KK0
        try simp only [Act.put]
        try simp only [List.setIfInBounds_toArray]
        try simp only [List.set_cons_succ]
        try simp only [List.set_cons_zero]
        refine wpAnyH_take (i := 12) (v := .bool true) rfl (by kernel_rfl) (by kernel_rfl) (by kernel_rfl) (fun _ _ _ h => h) (Or.inl ⟨by kernel_rfl, fun W hS => by go_simp⟩) hHeld5 ?_
        try simp only [Act.put]
        try simp only [List.setIfInBounds_toArray]
        try simp only [List.set_cons_succ]
        try simp only [List.set_cons_zero]
        refine wpAnyH_ready (rs := [13]) (by kernel_rfl) (by simp) ?_
        refine AllReadyH.cons rfl (fun KK0 hK => ?_) AllReadyH.nil
        go_simp
        refine hK.out _ _ (KEEP.out _ bq.out) (fun hHeld6 => ?_)
        clear hHeld5 hK KK0
        try simp only [Act.put]
        try simp only [List.setIfInBounds_toArray]
        try simp only [List.set_cons_succ]
        try simp only [List.set_cons_zero]
        refine wpAnyH_done (by kernel_rfl) ?_ _
        replace bb := Lib.hid (bl_trans bb.out bq.out)
        go_wp2
        go_ret
        exact ⟨rfl, bb.out⟩
end Go.Proofs.Ytlmkhnjdifamgaa.Model
