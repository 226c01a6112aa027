/-
  THE WALK OF THE LAW ModelEither.
-/
import Derived.Test.YtlmkhnjdifamgaaModelTail
import Derived.Test.YtlmkhnjdifamgaaModelEitherW1
import Derived.Test.YtlmkhnjdifamgaaModelEitherW2
import Derived.Test.YtlmkhnjdifamgaaModelEitherW3
namespace Go.Proofs.Ytlmkhnjdifamgaa.Model
open Go.ChangeShapes Go.WideShapes Go.ChangeAt Go.RowKit Mem Go.Proofs.Ytlmkhnjdifamgaa.Code

set_option maxRecDepth 100000 in
set_option maxHeartbeats 4000000 in
theorem either_walk (S : Said) (A D HA : Option Addr) (n c m d hn hc : Nat) (l l2 : List Raw) (h : List Heap.Cell) (w : World) (hnc : n ≤ c) (mn : n ≤ 9223372036854775807) (cm : c ≤ 9223372036854775807) (hat : At w A n l) (hmd : m ≤ d) (mm : m ≤ 9223372036854775807) (dm : d ≤ 9223372036854775807) (hat2 : At w D m l2) (hmn : hn ≤ 9223372036854775807) (hh : Rd w 2 HA hn (Heap.cs h)) :
    Calls Try.prog 5 #[.slice A n c, .slice D m d, .slice HA hn hc] w (RetB w true) := by
  have HS := Lib.hid S
  clear S
  have HL := Lib.hid hat.len
  have HA0 := Lib.hid hat
  have HM := Lib.hid hat2.len
  have HB0 := Lib.hid hat2
  have HH0 := Lib.hid hh
  have HHL : Hid (h.length = hn) := Lib.hid (by have h1 := hh.1; rw [Heap.cs_len] at h1; omega)
  clear hat hat2 hh
  have bb : Hid (Below w.heap.size w w) := Lib.hid (Below.refl _ _)
  cases hs : smallB l with
  | false =>
    have HSA := Lib.hid (small_neg l hs)
    clear hs
    go_enter Try.func5, Try.ntmps5
    go_wp2_with fail
    refine (small_c l _ _ _ _ (-1) HA0.out mn HSA.out).mono ?_
    rintro e wv1 ⟨rfl, b_⟩
    replace HA0 := Lib.hid (HA0.out.below b_)
    replace HB0 := Lib.hid (HB0.out.below b_)
    replace HH0 := Lib.hid (HH0.out.below b_)
    replace bb := Lib.hid (bl_trans bb.out b_)
    clear b_
    go_wp2_with fail
    refine (awake_any HS.out _).mono ?_
    rintro e wv2 ⟨rfl, b_⟩
    replace HA0 := Lib.hid (HA0.out.below b_)
    replace HB0 := Lib.hid (HB0.out.below b_)
    replace HH0 := Lib.hid (HH0.out.below b_)
    replace bb := Lib.hid (bl_trans bb.out b_)
    clear b_
    go_wp2
    go_ret
    exact ⟨rfl, bb.out⟩
  | true =>
    obtain ⟨hlim, h40⟩ := small_lim l hs
    have HSA := Lib.hid (small_val l n HL.out hs)
    have HLM := Lib.hid hlim
    have hn40 : n ≤ 40 := by rw [← HL.out]; exact h40
    clear hs hlim h40
    cases hs : smallB l2 with
    | false =>
      have HSB := Lib.hid (small_neg l2 hs)
      clear hs
      go_enter Try.func5, Try.ntmps5
      go_wp2_with fail
      refine (small_c l _ _ _ _ ((n : Int)) HA0.out mn HSA.out).mono ?_
      rintro e wv1 ⟨rfl, b_⟩
      replace HA0 := Lib.hid (HA0.out.below b_)
      replace HB0 := Lib.hid (HB0.out.below b_)
      replace HH0 := Lib.hid (HH0.out.below b_)
      replace bb := Lib.hid (bl_trans bb.out b_)
      clear b_
      go_wp2_with fail
      refine (small_c l2 _ _ _ _ (-1) HB0.out mm HSB.out).mono ?_
      rintro e wv2 ⟨rfl, b_⟩
      replace HA0 := Lib.hid (HA0.out.below b_)
      replace HB0 := Lib.hid (HB0.out.below b_)
      replace HH0 := Lib.hid (HH0.out.below b_)
      replace bb := Lib.hid (bl_trans bb.out b_)
      clear b_
      go_wp2_with fail
      refine (awake_any HS.out _).mono ?_
      rintro e wv3 ⟨rfl, b_⟩
      replace HA0 := Lib.hid (HA0.out.below b_)
      replace HB0 := Lib.hid (HB0.out.below b_)
      replace HH0 := Lib.hid (HH0.out.below b_)
      replace bb := Lib.hid (bl_trans bb.out b_)
      clear b_
      go_wp2
      go_ret
      exact ⟨rfl, bb.out⟩
    | true =>
      obtain ⟨hlim, h40⟩ := small_lim l2 hs
      have HSB := Lib.hid (small_val l2 m HM.out hs)
      have HLB := Lib.hid hlim
      have hm40 : m ≤ 40 := by rw [← HM.out]; exact h40
      clear hs hlim h40
      by_cases h64 : hn ≤ 64
      case neg =>
        have h64' : (64 : Int) < (hn : Int) := by omega
        go_enter Try.func5, Try.ntmps5
        go_wp2_with fail
        refine (small_c l _ _ _ _ ((n : Int)) HA0.out mn HSA.out).mono ?_
        rintro e wv1 ⟨rfl, b_⟩
        replace HA0 := Lib.hid (HA0.out.below b_)
        replace HB0 := Lib.hid (HB0.out.below b_)
        replace HH0 := Lib.hid (HH0.out.below b_)
        replace bb := Lib.hid (bl_trans bb.out b_)
        clear b_
        go_wp2_with fail
        refine (small_c l2 _ _ _ _ ((m : Int)) HB0.out mm HSB.out).mono ?_
        rintro e wv2 ⟨rfl, b_⟩
        replace HA0 := Lib.hid (HA0.out.below b_)
        replace HB0 := Lib.hid (HB0.out.below b_)
        replace HH0 := Lib.hid (HH0.out.below b_)
        replace bb := Lib.hid (bl_trans bb.out b_)
        clear b_
        go_wp2_with fail
        refine (awake_any HS.out _).mono ?_
        rintro e wv3 ⟨rfl, b_⟩
        replace HA0 := Lib.hid (HA0.out.below b_)
        replace HB0 := Lib.hid (HB0.out.below b_)
        replace HH0 := Lib.hid (HH0.out.below b_)
        replace bb := Lib.hid (bl_trans bb.out b_)
        clear b_
        go_wp2
        go_ret
        exact ⟨rfl, bb.out⟩
      have h64' : ¬ ((64 : Int) < (hn : Int)) := by omega
      by_cases n0 : n = 0
      case pos =>
        have nz : ((n : Int) == 0) = true := by simp [n0]
        clear n0
        go_enter Try.func5, Try.ntmps5
        go_wp2_with fail
        refine (small_c l _ _ _ _ ((n : Int)) HA0.out mn HSA.out).mono ?_
        rintro e wv1 ⟨rfl, b_⟩
        replace HA0 := Lib.hid (HA0.out.below b_)
        replace HB0 := Lib.hid (HB0.out.below b_)
        replace HH0 := Lib.hid (HH0.out.below b_)
        replace bb := Lib.hid (bl_trans bb.out b_)
        clear b_
        go_wp2_with fail
        refine (small_c l2 _ _ _ _ ((m : Int)) HB0.out mm HSB.out).mono ?_
        rintro e wv2 ⟨rfl, b_⟩
        replace HA0 := Lib.hid (HA0.out.below b_)
        replace HB0 := Lib.hid (HB0.out.below b_)
        replace HH0 := Lib.hid (HH0.out.below b_)
        replace bb := Lib.hid (bl_trans bb.out b_)
        clear b_
        go_wp2_with fail
        refine (awake_any HS.out _).mono ?_
        rintro e wv3 ⟨rfl, b_⟩
        replace HA0 := Lib.hid (HA0.out.below b_)
        replace HB0 := Lib.hid (HB0.out.below b_)
        replace HH0 := Lib.hid (HH0.out.below b_)
        replace bb := Lib.hid (bl_trans bb.out b_)
        clear b_
        go_wp2
        go_ret
        exact ⟨rfl, bb.out⟩
      have nz : ((n : Int) == 0) = false := by simpa using n0
      by_cases m0 : m = 0
      case pos =>
        have mz : ((m : Int) == 0) = true := by simp [m0]
        clear m0
        go_enter Try.func5, Try.ntmps5
        go_wp2_with fail
        refine (small_c l _ _ _ _ ((n : Int)) HA0.out mn HSA.out).mono ?_
        rintro e wv1 ⟨rfl, b_⟩
        replace HA0 := Lib.hid (HA0.out.below b_)
        replace HB0 := Lib.hid (HB0.out.below b_)
        replace HH0 := Lib.hid (HH0.out.below b_)
        replace bb := Lib.hid (bl_trans bb.out b_)
        clear b_
        go_wp2_with fail
        refine (small_c l2 _ _ _ _ ((m : Int)) HB0.out mm HSB.out).mono ?_
        rintro e wv2 ⟨rfl, b_⟩
        replace HA0 := Lib.hid (HA0.out.below b_)
        replace HB0 := Lib.hid (HB0.out.below b_)
        replace HH0 := Lib.hid (HH0.out.below b_)
        replace bb := Lib.hid (bl_trans bb.out b_)
        clear b_
        go_wp2_with fail
        refine (awake_any HS.out _).mono ?_
        rintro e wv3 ⟨rfl, b_⟩
        replace HA0 := Lib.hid (HA0.out.below b_)
        replace HB0 := Lib.hid (HB0.out.below b_)
        replace HH0 := Lib.hid (HH0.out.below b_)
        replace bb := Lib.hid (bl_trans bb.out b_)
        clear b_
        go_wp2
        go_ret
        exact ⟨rfl, bb.out⟩
      have mz : ((m : Int) == 0) = false := by simpa using m0
      have hss := either_ss l l2 n m HL.out HM.out
      have hho := either_facts (ss l) (ss l2) h
      rw [← hss] at hho
      obtain ⟨o, g, ok, r1, r2, r3, r4, gn, hrun, e1, e2, e3, e4, e5, l1, l2_, l3, l4, l5⟩ := run_names (ss ([bareR 7 (n : Int) (m : Int)] ++ l ++ l2)) h
      obtain ⟨p, g3, ok3, s1, s2, s3, s4, gn3, hrn, d1, d2, d3, d4, d5, m1, m2, m3, m4, m5⟩ := run_names (ss l) h
      obtain ⟨y, g4, ok4, q1, q2, q3, q4, gn4, hry, f1, f2, f3, f4, f5, k1, k2, k3, k4, k5⟩ := run_names (ss l2) h
      have hok : ok = okR (ss ([bareR 7 (n : Int) (m : Int)] ++ l ++ l2)) h := by rw [← run_flag, hrun]
      rw [hrun, hrn, hry, ← hok] at hho
      rw [HHL.out] at l5 m5 k5
      rw [l5] at e5
      rw [m5] at d5
      rw [k5] at f5
      clear l5 m5 k5
      have hnn := HHL.out
      have HRO := Lib.hid hrun
      have HRX := Lib.hid hrn
      have HRY := Lib.hid hry
      obtain ⟨fx, hfx⟩ : ∃ fx, errOf ok3 = fx := ⟨_, rfl⟩
      obtain ⟨fy, hfy⟩ : ∃ fy, errOf ok4 = fy := ⟨_, rfl⟩
      clear hss hrun hrn hry
      cases ok with
      | false => exact either_no HS A D HA n c m d hn hc l l2 h w hnc mn cm hmd mm dm HA0 HB0 HH0 HSA HLM hn40 HSB HLB hm40 h64 nz mz o p y g g3 g4 r1 r2 r3 r4 s1 s2 s3 s4 q1 q2 q3 q4 e1 e2 e3 e4 e5 l1 l2_ l3 l4 d1 d2 d3 d4 d5 m1 m2 m3 m4 f1 f2 f3 f4 f5 k1 k2 k3 k4 ok3 ok4 HRO HRX HRY fx fy hfx hfy
      | true =>
        obtain ⟨hoa, hob, hcase⟩ := hho rfl
        have hx1 : ok3 = true := by have h1 := HRX.out; rw [run_ok _ _ hoa] at h1; injection h1 with _ h2; injection h2 with _ h3; exact h3.symm
        have hy1 : ok4 = true := by have h1 := HRY.out; rw [run_ok _ _ hob] at h1; injection h1 with _ h2; injection h2 with _ h3; exact h3.symm
        subst hx1 hy1
        rcases hcase with ⟨hk2, has⟩ | ⟨hk2, has, hsub⟩
        · exact either_p HS A D HA n c m d hn hc l l2 h w hnc mn cm hmd mm dm HA0 HB0 HH0 HSA HLM hn40 HSB HLB hm40 h64 nz mz o p y g g3 g4 r1 r2 r3 r4 s1 s2 s3 s4 q1 q2 q3 q4 e1 e2 e3 e4 e5 l1 l2_ l3 l4 d1 d2 d3 d4 d5 m1 m2 m3 m4 f1 f2 f3 f4 f5 k1 k2 k3 k4 HRO HRX HRY (Lib.hid hk2) (Lib.hid has)
        · exact either_y HS A D HA n c m d hn hc l l2 h w hnc mn cm hmd mm dm HA0 HB0 HH0 HSA HLM hn40 HSB HLB hm40 h64 nz mz o p y g g3 g4 r1 r2 r3 r4 s1 s2 s3 s4 q1 q2 q3 q4 e1 e2 e3 e4 e5 l1 l2_ l3 l4 d1 d2 d3 d4 d5 m1 m2 m3 m4 f1 f2 f3 f4 f5 k1 k2 k3 k4 HRO HRX HRY (Lib.hid hk2) (Lib.hid has) (Lib.hid hsub)
end Go.Proofs.Ytlmkhnjdifamgaa.Model
