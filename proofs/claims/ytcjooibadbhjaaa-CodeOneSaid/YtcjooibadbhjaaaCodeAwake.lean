/-
  THE FIXED ANSWER awake OF LAYER 8.
-/
import Derived.Test.YtcjooibadbhjaaaCodeSaid
namespace Go.Proofs.Ytcjooibadbhjaaa.Code
open Go.ChangeShapes Go.WideShapes Go.ChangeAt Go.RowKit Mem

/-- Steps without a term. -/
def bares (l : List (Int × Int × Int)) : List Raw := l.map fun x => ⟨⟨x.1, x.2.1, x.2.2, []⟩, none, 0, 0⟩
theorem bares_terms (w : World) (l : List (Int × Int × Int)) : Terms w (bares l) := by
  intro r hr
  obtain ⟨x, _, rfl⟩ := List.mem_map.1 hr
  exact ⟨Rd.none_, Nat.le_refl _, by show 0 ≤ 9223372036854775807; omega⟩
theorem bares_lim (l : List (Int × Int × Int)) : Lim (bares l) := by
  intro r hr
  obtain ⟨x, _, rfl⟩ := List.mem_map.1 hr
  exact Nat.zero_le _
theorem bares_at (w : World) (l : List (Int × Int × Int)) (n g : Nat) (e : TypeId) (hn : l.length = n) (hg : w.heap.size = g) : At (w.alloc (.cells (rs (bares l)).toArray e)) (some ⟨g, 0, none⟩) n (bares l) :=
  ⟨Rd.builtAt w 4 n (rs (bares l)) e (by unfold rs bares; rw [flat_len rc_len, List.length_map, hn]) hg, bares_terms _ _⟩
theorem At.first {w : World} {A : Option Addr} {n : Nat} {l : List Raw} (h : At w A n l) (k : Nat) (hk : k ≤ n) : At w A k (l.take k) :=
  ⟨rd_first rc_len (by decide) h.1 k hk, h.2.sub (fun r hr => List.mem_of_mem_take hr)⟩
theorem Lim.first {l : List Raw} (h : Lim l) (k : Nat) : Lim (l.take k) := fun r hr => h r (List.mem_of_mem_take hr)
set_option maxRecDepth 100000 in
set_option maxHeartbeats 2000000 in
theorem awake_any (S : Said) (w : World) : Calls Try.prog 10 #[] w (RetB w true) := by
  have HS := Lib.hid S
  clear S
  have bb : Hid (Below w.heap.size w w) := Lib.hid (Below.refl _ _)
  have HC : Hid (At (w.alloc (.cells (rs (bares [(7, 2, 1), (1, 1, 9), (5, 0, 0), (6, 4, 0)])).toArray 37)) (some ⟨w.heap.size, 0, none⟩) 4 (bares [(7, 2, 1), (1, 1, 9), (5, 0, 0), (6, 4, 0)])) := Lib.hid (bares_at w _ 4 _ _ rfl rfl)
  go_enter Try.func10, Try.ntmps10
  go_wp2_with fail
  replace bb := Lib.hid (bl_alloc bb.out (.cells (rs (bares [(7, 2, 1), (1, 1, 9), (5, 0, 0), (6, 4, 0)])).toArray 37))
  refine (HS.out.check (bares [(7, 2, 1), (1, 1, 9), (5, 0, 0), (6, 4, 0)]) _ _ _ _ 0 (HC.out) (by decide) (bares_lim _) (by decide) (by decide +kernel)).mono ?_
  rintro e w1 ⟨rfl, b_⟩
  replace HC := Lib.hid ((HC.out).below b_)
  replace bb := Lib.hid (bl_trans bb.out b_)
  clear b_
  go_wp2_with fail
  refine (HS.out.deep (bares [(7, 2, 1), (1, 1, 9), (5, 0, 0), (6, 4, 0)]) _ _ _ _ 1 (HC.out) (by decide) (bares_lim _) (by decide) (by decide +kernel)).mono ?_
  rintro e w2 ⟨rfl, b_⟩
  replace HC := Lib.hid ((HC.out).below b_)
  replace bb := Lib.hid (bl_trans bb.out b_)
  clear b_
  go_wp2_with fail
  refine ((HS.out.cells (bares [(7, 2, 1), (1, 1, 9), (5, 0, 0), (6, 4, 0)]) _ _ _ _ [9] 1 (HC.out) (by decide) (bares_lim _) (by decide) (by decide +kernel) rfl).mono (fun _ _ => RetO.toS)).mono ?_
  rintro e w3 ⟨B3, d3, rfl, r3, b_⟩
  replace HC := Lib.hid ((HC.out).below b_)
  replace bb := Lib.hid (bl_trans bb.out b_)
  have R3 := Lib.hid r3
  clear r3
  clear b_
  go_wp2_with fail
  refine (Mem.numbers_b [9] [9] _ _ _ _ _ _ _ true ((R3.out).alloc _) (Rd.built _ 1 1 (zs [9]) _ rfl) (by decide) (by decide) (by decide)).mono ?_
  rintro e w4 ⟨rfl, b_⟩
  replace HC := Lib.hid (((HC.out).alloc _).below b_)
  clear R3
  replace bb := Lib.hid (bl_trans (bl_alloc bb.out _) b_)
  clear b_
  go_wp2_with fail
  refine (HS.out.check ((bares [(7, 2, 1), (1, 1, 9), (5, 0, 0), (6, 4, 0)]).take 3) _ _ _ _ 2 (HC.out.first 3 (by decide)) (by decide) (Lim.first (bares_lim _) 3) (by decide) (by decide +kernel)).mono ?_
  rintro e w5 ⟨rfl, b_⟩
  clear HC
  replace bb := Lib.hid (bl_trans bb.out b_)
  clear b_
  go_wp2_with fail
  refine (HS.out.check (bares [(0, 0, 0)]) _ _ _ _ 1 (bares_at _ _ 1 _ _ rfl rfl) (by decide) (bares_lim _) (by decide) (by decide +kernel)).mono ?_
  rintro e w6 ⟨rfl, b_⟩
  replace bb := Lib.hid (bl_trans (bl_alloc bb.out _) b_)
  clear b_
  go_wp2_with fail
  refine (HS.out.check [] _ _ _ _ 0 At.none_ (by decide) (bares_lim []) (by decide) (by decide +kernel)).mono ?_
  rintro e w7 ⟨rfl, b_⟩
  replace bb := Lib.hid (bl_trans bb.out b_)
  clear b_
  have HSK : Hid (∀ o2, At ((w7.alloc (.cells (Term.ops [⟨1, 0⟩]).toArray 41)).alloc (.cells (rs [⟨⟨4, 1, 0, [⟨1, 0⟩]⟩, some ⟨w7.heap.size, 0, none⟩, 1, 1⟩]).toArray o2)) (some ⟨w7.heap.size + 1, 0, none⟩) 1 [⟨⟨4, 1, 0, [⟨1, 0⟩]⟩, some ⟨w7.heap.size, 0, none⟩, 1, 1⟩]) := Lib.hid (fun o2 => ⟨Rd.builtAt _ 4 1 (rs [⟨⟨4, 1, 0, [⟨1, 0⟩]⟩, some ⟨w7.heap.size, 0, none⟩, 1, 1⟩]) o2 rfl (by simp), by
    intro r hr
    rw [List.mem_singleton] at hr
    subst hr
    exact ⟨(Rd.built _ 2 1 (Term.ops [⟨1, 0⟩]) _ rfl).alloc _, Nat.le_refl _, by show 1 ≤ 9223372036854775807; omega⟩⟩)
  go_wp2_with fail
  refine (HS.out.check [⟨⟨4, 1, 0, [⟨1, 0⟩]⟩, some ⟨w7.heap.size, 0, none⟩, 1, 1⟩] _ _ _ _ 2 (HSK.out _) (by decide) (by intro r hr; rw [List.mem_singleton] at hr; subst hr; show 1 ≤ 1000000; omega) (by decide) (show checkS [⟨4, 1, 0, [⟨1, 0⟩]⟩] = 2 by decide +kernel)).mono ?_
  rintro e w8 ⟨rfl, b_⟩
  replace bb := Lib.hid (bl_trans (bl_alloc (bl_alloc bb.out _) _) b_)
  clear b_
  go_wp2
  go_ret
  exact ⟨rfl, bb.out⟩
end Go.Proofs.Ytcjooibadbhjaaa.Code
