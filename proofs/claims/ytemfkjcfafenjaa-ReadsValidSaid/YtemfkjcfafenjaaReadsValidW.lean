/-
  THE WALK OF THE LAW ReadsValid.
-/
import Derived.Test.YtemfkjcfafenjaaReadsLaw
import Derived.Test.YtemfkjcfafenjaaReadsMore2
namespace Go.Proofs.Ytemfkjcfafenjaa.Reads
open Go.ChangeShapes Go.WideShapes Go.ChangeAt Go.RowKit Mem

set_option maxRecDepth 100000 in
theorem valid_walk (S : Said) (A : Option Addr) (n c : Nat) (l : List Read) (D : Option Addr) (m d : Nat) (t : List Stripe.Rec) (who : Int) (E : Option Addr) (k f : Nat) (h : List Heap.Cell) (w : World)
    (hnc : n ≤ c) (mn : n ≤ 9223372036854775807) (hr : Rd w 3 A n (ds l)) (mm : m ≤ 9223372036854775807) (ht : Rd w 2 D m (Stripe.rs t)) (mk : k ≤ 9223372036854775807) (hh : Rd w 2 E k (Heap.cs h)) :
    Calls Try.prog 4 #[.slice A n c, .slice D m d, .int .i64 who, .slice E k f] w (RetB w true) := by
  have HS := Lib.hid S
  clear S
  by_cases h1 : 40 < n
  · go_enter Try.func4, Try.ntmps4
    go_wp2_with fail
    refine (awake_any HS.out _).mono ?_
    rintro e v1 ⟨rfl, b1⟩
    go_wp2
    go_ret
    exact ⟨rfl, b1⟩
  by_cases h2 : 30 < m
  · go_enter Try.func4, Try.ntmps4
    go_wp2_with fail
    refine (awake_any HS.out _).mono ?_
    rintro e v1 ⟨rfl, b1⟩
    go_wp2
    go_ret
    exact ⟨rfl, b1⟩
  by_cases h3 : 100 < k
  · go_enter Try.func4, Try.ntmps4
    go_wp2_with fail
    refine (awake_any HS.out _).mono ?_
    rintro e v1 ⟨rfl, b1⟩
    go_wp2
    go_ret
    exact ⟨rfl, b1⟩
  obtain ⟨v, hv⟩ : ∃ v, validS l t who = v := ⟨_, rfl⟩
  obtain ⟨b, hb⟩ : ∃ b, sameS l h = b := ⟨_, rfl⟩
  have HV := Lib.hid hv
  have HB := Lib.hid hb
  clear hv hb
  have e1 : (v == v) = true := by simp
  have e2 : (b == b) = true := by simp
  have bb : Below w.heap.size w w := Below.refl _ _
  go_enter Try.func4, Try.ntmps4
  go_wp2_with fail
  refine (HS.out.valid l t _ _ _ _ _ _ _ _ v hr hnc ht (by omega) (by omega) HV.out).mono ?_
  rintro e w1 ⟨rfl, b_⟩
  replace hr := hr.below b_
  replace ht := ht.below b_
  replace hh := hh.below b_
  replace bb := bl_trans bb b_
  clear b_
  go_wp2_with fail
  refine (refvalid l t _ _ _ _ _ _ _ _ v hr ht (by omega) (by omega) HV.out).mono ?_
  rintro e w2 ⟨rfl, b_⟩
  replace hr := hr.below b_
  replace hh := hh.below b_
  replace bb := bl_trans bb b_
  clear b_
  clear ht
  go_wp2_with fail
  refine (HS.out.same l h _ _ _ _ _ _ _ b hr hnc hh (by omega) (by omega) HB.out).mono ?_
  rintro e w3 ⟨rfl, b_⟩
  replace hr := hr.below b_
  replace hh := hh.below b_
  replace bb := bl_trans bb b_
  clear b_
  go_wp2_with fail
  refine (refstill l h _ _ _ _ _ _ _ b hr hh (by omega) (by omega) HB.out).mono ?_
  rintro e w4 ⟨rfl, b_⟩
  replace bb := bl_trans bb b_
  clear b_
  clear hr
  clear hh
  go_wp2_with fail
  refine (awake_any HS.out _).mono ?_
  rintro e w5 ⟨rfl, b_⟩
  replace bb := bl_trans bb b_
  clear b_
  go_wp2
  go_ret
  exact ⟨rfl, bb⟩
end Go.Proofs.Ytemfkjcfafenjaa.Reads
