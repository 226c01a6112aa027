/-
  WHAT THE LAWS OF LAYER 3 ASK OF THE LAYER'S FUNCTIONS ('Said'), and what they make of it: the fixed answer awake.
-/
import Derived.Test.YtfnghnfaekjfjaaRef03d
namespace Go.Proofs.Ytfnghnfaekjfjaa.Stripe
open Go.ChangeShapes Go.WideShapes Go.ChangeAt Go.RowKit Mem

/-- The layer's functions do what the chapter asks. -/
structure Said : Prop where
  new : ∀ (n : Int) (w : World) (r : List Rec × Int) (m : Nat), newS n = r → r.1.length = m → Calls Try.prog 14 #[.int .i64 n] w (RetSE w 2 m (rs r.1) r.2)
  right : ∀ (t : List Rec) (A : Option Addr) (n c : Nat) (w : World) (b : Bool), Rd w 2 A n (rs t) → n ≤ 1000000 → rightB t = b → Calls Try.prog 15 #[.slice A n c] w (RetB w b)
  of_ : ∀ (t : List Rec) (l : List Int) (A D : Option Addr) (n c m d : Nat) (w : World) (r : List Int) (q : Nat), Rd w 2 A n (rs t) → Rd w 1 D m (zs l) → n ≤ 1000000 → m ≤ 1000000 → ofS t l = r → r.length = q → Calls Try.prog 18 #[.slice A n c, .slice D m d] w (RetS w 1 q (zs r))
  lock : ∀ (t : List Rec) (l : List Int) (A D : Option Addr) (n c m d : Nat) (who : Int) (w : World) (r : List Rec × Int), Rd w 2 A n (rs t) → Rd w 1 D m (zs l) → n ≤ 1000000 → m ≤ 1000000 → lockS t who l = r → Calls Try.prog 10 #[.slice A n c, .int .i64 who, .slice D m d] w (RetSE w 2 n (rs r.1) r.2)
  let_ : ∀ (t : List Rec) (A : Option Addr) (n c : Nat) (who : Int) (w : World) (r : List Rec), Rd w 2 A n (rs t) → n ≤ 1000000 → letS t who = r → Calls Try.prog 23 #[.slice A n c, .int .i64 who] w (RetS w 2 n (rs r))
  stamp : ∀ (t : List Rec) (A : Option Addr) (n c : Nat) (who ver : Int) (w : World) (r : List Rec × Int), Rd w 2 A n (rs t) → n ≤ 1000000 → stampS t who ver = r → Calls Try.prog 12 #[.slice A n c, .int .i64 who, .int .i64 ver] w (RetSE w 2 n (rs r.1) r.2)
  held : ∀ (t : List Rec) (A : Option Addr) (n c : Nat) (who : Int) (w : World) (r : List Int) (q : Nat), Rd w 2 A n (rs t) → n ≤ 1000000 → heldS t who = r → r.length = q → Calls Try.prog 20 #[.slice A n c, .int .i64 who] w (RetS w 1 q (zs r))

set_option maxRecDepth 100000 in
set_option maxHeartbeats 1000000 in
theorem awake_any (S : Said) (w : World) : Calls Try.prog 9 #[] w (RetB w true) := by
  have HS := Lib.hid S
  clear S
  go_enter Try.func9, Try.ntmps9
  go_wp2_with fail
  refine (HS.out.new 2 _ ([⟨0, 0⟩, ⟨0, 0⟩], 0) 2 (by decide) rfl).mono ?_
  rintro e v1 ⟨B1, d1, rfl, s1, b_⟩
  have bb := b_
  clear b_
  go_wp2_with fail
  refine (HS.out.lock [⟨0, 0⟩, ⟨0, 0⟩] [1] _ _ _ _ _ _ 3 _ ([⟨0, 0⟩, ⟨0, 3⟩], 0) (s1.alloc _) (Rd.built _ 1 1 (zs [1]) _ rfl) (by decide) (by decide) (by decide)).mono ?_
  rintro e v2 ⟨B2, d2, rfl, s2, b_⟩
  replace s1 := (s1.alloc _).below b_
  replace bb := bl_trans (bl_alloc bb _) b_
  clear b_
  go_wp2_with fail
  refine (HS.out.lock [⟨0, 0⟩, ⟨0, 3⟩] [0, 3] _ _ _ _ _ _ 4 _ ([⟨0, 0⟩, ⟨0, 3⟩], 7) (s2.alloc _) (Rd.built _ 1 2 (zs [0, 3]) _ rfl) (by decide) (by decide) (by decide)).mono ?_
  rintro e v3 ⟨B3, d3, rfl, s3, b_⟩
  replace s1 := (s1.alloc _).below b_
  replace s2 := (s2.alloc _).below b_
  replace bb := bl_trans (bl_alloc bb _) b_
  clear b_
  go_wp2_with fail
  refine (HS.out.stamp [⟨0, 0⟩, ⟨0, 3⟩] _ _ _ 3 7 _ ([⟨0, 0⟩, ⟨7, 0⟩], 0) s2 (by decide) (by decide)).mono ?_
  rintro e v4 ⟨B4, d4, rfl, s4, b_⟩
  replace s1 := s1.below b_
  replace s2 := s2.below b_
  replace bb := bl_trans bb b_
  clear b_
  go_wp2_with fail
  refine (HS.out.stamp [⟨0, 0⟩, ⟨0, 3⟩] _ _ _ 3 0 _ ([⟨0, 0⟩, ⟨0, 3⟩], 6) s2 (by decide) (by decide)).mono ?_
  rintro e v5 ⟨B5, d5, rfl, s5, b_⟩
  replace s1 := s1.below b_
  replace s2 := s2.below b_
  replace s4 := s4.below b_
  replace bb := bl_trans bb b_
  clear b_
  obtain ⟨ab, ao, rfl, ac⟩ := s2.2 (by decide)
  obtain ⟨bb', bo, rfl, bc⟩ := s4.2 (by decide)
  have k1 := ac 3 _ rfl
  have k2 := bc 2 _ rfl
  have k3 := bc 3 _ rfl
  clear ac bc
  go_wp2_with fail
  refine (HS.out.of_ [⟨0, 0⟩, ⟨0, 0⟩] [1, 3, 4] _ _ _ _ _ _ _ [0, 1] 2 (s1.alloc _) (Rd.built _ 1 3 (zs [1, 3, 4]) _ rfl) (by decide) (by decide) (by decide) rfl).mono ?_
  rintro e v6 ⟨B6, d6, rfl, s6, b_⟩
  replace s1 := (s1.alloc _).below b_
  replace s2 := (s2.alloc _).below b_
  replace s4 := (s4.alloc _).below b_
  replace bb := bl_trans (bl_alloc bb _) b_
  clear b_
  clear k1 k2 k3
  go_wp2_with fail
  refine (numbers_b [0, 1] [0, 1] _ _ _ _ _ _ _ true (s6.alloc _) (Rd.built _ 1 2 (zs [0, 1]) _ rfl) (by decide) (by decide) (by decide)).mono ?_
  rintro e v7 ⟨rfl, b_⟩
  clear s6
  replace s1 := (s1.alloc _).below b_
  replace s2 := (s2.alloc _).below b_
  replace s4 := (s4.alloc _).below b_
  replace bb := bl_trans (bl_alloc bb _) b_
  clear b_
  go_wp2_with fail
  refine (HS.out.held [⟨0, 0⟩, ⟨0, 3⟩] _ _ _ 3 _ [1] 1 s2 (by decide) (by decide) rfl).mono ?_
  rintro e v8 ⟨B7, d7, rfl, s7, b_⟩
  replace s1 := s1.below b_
  replace s2 := s2.below b_
  replace s4 := s4.below b_
  replace bb := bl_trans bb b_
  clear b_
  go_wp2_with fail
  refine (numbers_b [1] [1] _ _ _ _ _ _ _ true (s7.alloc _) (Rd.built _ 1 1 (zs [1]) _ rfl) (by decide) (by decide) (by decide)).mono ?_
  rintro e v9 ⟨rfl, b_⟩
  clear s7
  replace s1 := (s1.alloc _).below b_
  replace s2 := (s2.alloc _).below b_
  replace s4 := (s4.alloc _).below b_
  replace bb := bl_trans (bl_alloc bb _) b_
  clear b_
  go_wp2_with fail
  refine (HS.out.let_ [⟨0, 0⟩, ⟨0, 3⟩] _ _ _ 3 _ [⟨0, 0⟩, ⟨0, 0⟩] s2 (by decide) (by decide)).mono ?_
  rintro e v10 ⟨B8, d8, rfl, s8, b_⟩
  replace s1 := s1.below b_
  replace s2 := s2.below b_
  replace s4 := s4.below b_
  replace bb := bl_trans bb b_
  clear b_
  go_wp2_with fail
  refine (HS.out.held [⟨0, 0⟩, ⟨0, 0⟩] _ _ _ 3 _ [] 0 s8 (by decide) (by decide) rfl).mono ?_
  rintro e v11 ⟨B9, d9, rfl, s9, b_⟩
  replace s1 := s1.below b_
  replace s2 := s2.below b_
  replace s4 := s4.below b_
  replace s8 := s8.below b_
  replace bb := bl_trans bb b_
  clear b_
  go_wp2_with fail
  refine (HS.out.right [⟨0, 0⟩, ⟨7, 0⟩] _ _ _ _ true s4 (by decide) (by decide)).mono ?_
  rintro e v12 ⟨rfl, b_⟩
  replace s1 := s1.below b_
  replace s2 := s2.below b_
  replace s4 := s4.below b_
  replace s8 := s8.below b_
  replace bb := bl_trans bb b_
  clear b_
  go_wp2_with fail
  go_ret
  exact ⟨rfl, bb⟩

/-- The numbers of a struct fit 64 bits. -/
def Fits (n : Int) : Prop := -9223372036854775808 ≤ n ∧ n ≤ 9223372036854775807
theorem open_recs {H : Type} {enc : TypeId × Value → H} {W : World} {A : Option Addr} {n c : Nat} {d : DataW H} {p : List MemPlace}
    (h : DataW.Trod enc Try.prog W 0 (fun _ => true) true 22 (.slice A n c) d p) :
    n ≤ c ∧ c ≤ 9223372036854775807 ∧ ∃ xs : List Rec, Rd W 2 A n (rs xs) ∧ xs.length = n ∧ ∀ x ∈ xs, Fits x.version ∧ Fits x.owner := by
  refine open_rows Try.underlying22 2 (by kernel_rfl) (by decide) rc (fun _ => rfl) (fun x => Fits x.version ∧ Fits x.owner) ?_ h
  intro fuel cs' x hl ht
  obtain ⟨xs, n', _, _, _, hxl, hf⟩ := DataW.trod_struct Try.underlying44 ht
  match cs', hl with
  | [c0, c1], _ =>
    have g0 := hf 0 _ rfl
    have g1 := hf 1 _ rfl
    have k3 : Try.prog.cellsOf 3 = 1 := by kernel_rfl
    match xs, hxl with
    | [y0, y1], _ =>
      simp [k3] at g0 g1
      obtain ⟨m0, e0, _, wf0⟩ := DataW.trod_int Try.underlying3 g0
      obtain ⟨m, e1, _, wf⟩ := DataW.trod_int Try.underlying3 g1
      simp at e0 e1
      subst e0 e1
      exact ⟨⟨m0, m⟩, rfl, bounds_i64 wf0, bounds_i64 wf⟩
theorem open_ints_ {H : Type} {enc : TypeId × Value → H} {W : World} {A : Option Addr} {n c : Nat} {d : DataW H} {p : List MemPlace}
    (h : DataW.Trod enc Try.prog W 0 (fun _ => true) true 23 (.slice A n c) d p) :
    n ≤ c ∧ c ≤ 9223372036854775807 ∧ ∃ xs : List Int, Rd W 1 A n (zs xs) ∧ xs.length = n ∧ ∀ x ∈ xs, Fits x := by
  refine open_rows Try.underlying23 1 (by kernel_rfl) (by decide) zc (fun _ => rfl) Fits ?_ h
  intro fuel cs' x hl ht
  obtain ⟨m, e1, _, wf⟩ := DataW.trod_int Try.underlying3 ht
  exact ⟨m, e1, bounds_i64 wf⟩
end Go.Proofs.Ytfnghnfaekjfjaa.Stripe
