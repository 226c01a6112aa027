/-
 PLAIN LEMMAS ON CODES: two codes in an Either, two one behind the other, Eithers in Eithers, a Skip, a step alone. No conditions beyond those that each theorem states. Nothing of the program is named here.
-/
import Derived.Test.YtclbeboiojgejaaGreatTermA
import Derived.Test.YtclbeboiojgejaaGreatMemA
import Derived.Laws.Cover1
import Derived.Test.YtclbeboiojgejaaGreatTermB
import Derived.Deep.RegionHeld3
namespace Go.Proofs.YtclbeboiojgejaaGreat.Code
open Go.ChangeShapes Go.WideShapes Go.ChangeAt Go.RowKit Mem Term

structure Step where
 d : Int
 a : Int
 b : Int
 t : List Term.Op
 deriving DecidableEq, Inhabited
/-- A step, and where its term lies. -/
structure Raw where
 s : Step
 T : Option Addr
 n : Nat
 c : Nat
 deriving Inhabited
def rc (r : Raw) : List Value := [.int .i64 r.s.d, .int .i64 r.s.a, .int .i64 r.s.b, .slice r.T r.n r.c]
def rs (l : List Raw) : List Value := l.flatMap rc
def ss (l : List Raw) : List Step := l.map Raw.s
theorem rc_len (r : Raw) : (rc r).length = 4 := rfl
theorem rs_app (a b : List Raw) : rs (a ++ b) = rs a ++ rs b := by unfold rs; rw [List.flatMap_append]
theorem ss_app (a b : List Raw) : ss (a ++ b) = ss a ++ ss b := by unfold ss; rw [List.map_append]
theorem ss_len (l : List Raw) : (ss l).length = l.length := by unfold ss; rw [List.length_map]
/-- The terms of steps, as they lie. -/
def Terms (w : World) (l : List Raw) : Prop := ∀ r ∈ l, Rd w 2 r.T r.n (Term.ops r.s.t) ∧ r.n ≤ r.c ∧ r.c ≤ 9223372036854775807
/-- A code in memory. -/
def At (w : World) (A : Option Addr) (n : Nat) (l : List Raw) : Prop := Rd w 4 A n (rs l) ∧ Terms w l
section
variable {w w' : World} {A : Option Addr} {n : Nat} {l m : List Raw}
theorem Terms.below (h : Terms w l) (hb : Below w.heap.size w w') : Terms w' l := fun r hr => ⟨(h r hr).1.below hb, (h r hr).2⟩
theorem Terms.nil_ : Terms w [] := by intro r hr; cases hr
theorem Terms.app (h : Terms w l) (k : Terms w m) : Terms w (l ++ m) := by
 intro r hr
 rcases List.mem_append.1 hr with hr | hr
 · exact h r hr
 · exact k r hr
theorem Terms.sub (h : Terms w l) (hm : ∀ r ∈ m, r ∈ l) : Terms w m := fun r hr => h r (hm r hr)
theorem At.below (h : At w A n l) (hb : Below w.heap.size w w') : At w' A n l := ⟨h.1.below hb, h.2.below hb⟩
theorem At.alloc (h : At w A n l) (o : Obj) : At (w.alloc o) A n l := h.below (bl_alloc (Below.refl _ _) o)
theorem At.len (h : At w A n l) : l.length = n := Rd.len rc_len h.1 (by decide)
theorem At.none_ : At w A 0 [] := ⟨Rd.none_, Terms.nil_⟩
theorem At.at_ (h : At w A n l) (k : Nat) (hk : k < n) :
  ∃ b off, ∃ r : Raw, A = some ⟨b, off, none⟩ ∧ l[k]? = some r ∧ w.cell? ⟨b, off + k * 4, none⟩ = some (.int .i64 r.s.d) ∧ w.cell? ⟨b, off + k * 4 + 1, none⟩ = some (.int .i64 r.s.a) ∧
   w.cell? ⟨b, off + k * 4 + 2, none⟩ = some (.int .i64 r.s.b) ∧ w.cell? ⟨b, off + k * 4 + 3, none⟩ = some (.slice r.T r.n r.c) ∧ Rd w 2 r.T r.n (Term.ops r.s.t) ∧ r.n ≤ 9223372036854775807 := by
 obtain ⟨b, off, r, hA, hr, hc⟩ := Rd.at_ rc_len h.1 (by decide) k hk
 have ht := h.2 r (List.mem_of_getElem? hr)
 exact ⟨b, off, r, hA, hr, by have := hc 0 _ rfl; simpa using this, hc 1 _ rfl, hc 2 _ rfl, hc 3 _ rfl, ht.1, by omega⟩
/-- The steps lie at l's places. -/
theorem ss_at (l : List Raw) (k : Nat) (r : Raw) (h : l[k]? = some r) : (ss l)[k]? = some r.s := by unfold ss; rw [List.getElem?_map, h]; rfl
end

/-- A term of registers alone. -/
def reckonsB (t : List Term.Op) : Bool := decide (Term.checkS t = 0) && decide ((Term.cellsS t).length = 0)
/-- May a step be? -/
def oneB (s : Step) : Bool :=
 if s.d = 1 then decide (s.t.length = 0) && decide (0 ≤ s.a ∧ s.a ≤ 7 ∧ 0 ≤ s.b ∧ s.b ≤ 63)
 else if s.d = 2 then reckonsB s.t && decide (0 ≤ s.a ∧ s.a ≤ 7 ∧ s.b = 0)
 else if s.d = 3 then reckonsB s.t && decide (0 ≤ s.a ∧ s.a ≤ 63 ∧ s.b = 0)
 else if s.d = 4 then reckonsB s.t && decide (1 ≤ s.a ∧ s.a ≤ 24 ∧ s.b = 0)
 else if s.d = 5 then decide (s.t.length = 0) && decide (s.a = 0 ∧ s.b = 0)
 else if s.d = 6 then decide (s.t.length = 0) && decide (0 ≤ s.a ∧ s.a ≤ 255 ∧ s.b = 0)
 else decide (s.d = 7) && (decide (s.t.length = 0) && decide (1 ≤ s.a ∧ s.a ≤ 24 ∧ 1 ≤ s.b ∧ s.b ≤ 24))
theorem one_d (s : Step) (h : oneB s = true) : 1 ≤ s.d ∧ s.d ≤ 7 := by
 unfold oneB at h
 repeat' split at h
 all_goals first | omega | (simp at h; omega)
theorem one_skip (s : Step) (h : oneB s = true) (hd : s.d = 4) : 1 ≤ s.a ∧ s.a ≤ 24 := by
 unfold oneB at h
 rw [if_neg (by omega), if_neg (by omega), if_neg (by omega), if_pos hd] at h
 simp at h; omega
theorem one_either (s : Step) (h : oneB s = true) (hd : s.d = 7) : 1 ≤ s.a ∧ s.a ≤ 24 ∧ 1 ≤ s.b ∧ s.b ≤ 24 := by
 unfold oneB at h
 rw [if_neg (by omega), if_neg (by omega), if_neg (by omega), if_neg (by omega), if_neg (by omega), if_neg (by omega)] at h
 simp at h; omega

/-- How deep a part is, and whether it is well. -/
def wellF : Nat → List Step → Nat × Bool
 | 0, _ => (0, true)
 | _ + 1, [] => (0, true)
 | f + 1, s :: c =>
  if s.d = 4 ∧ (c.length : Int) < s.a then (0, false)
  else if s.d = 7 then
   if (c.length : Int) < s.a + s.b then (0, false)
   else (max (max (wellF f (c.drop (s.a.toNat + s.b.toNat))).1 (1 + (wellF f (c.take s.a.toNat)).1)) (1 + (wellF f ((c.drop s.a.toNat).take s.b.toNat)).1),
    ((wellF f (c.take s.a.toNat)).2 && (wellF f ((c.drop s.a.toNat).take s.b.toNat)).2) && (wellF f (c.drop (s.a.toNat + s.b.toNat))).2)
  else wellF f c
def wellP (c : List Step) : Nat × Bool := wellF c.length c
theorem well_same (f : Nat) : ∀ (g : Nat) (c : List Step), c.length ≤ f → c.length ≤ g → wellF f c = wellF g c := by
 induction f with
 | zero =>
  intro g c h1 _
  obtain rfl : c = [] := List.eq_nil_of_length_eq_zero (by omega)
  cases g <;> rfl
 | succ f ih =>
  intro g c h1 h2
  cases c with
  | nil => cases g <;> rfl
  | cons s c =>
   cases g with
   | zero => simp at h2
   | succ g =>
    simp only [List.length_cons] at h1 h2
    have e : ∀ x : List Step, x.length ≤ c.length → wellF f x = wellF g x := fun x hx => ih g x (by omega) (by omega)
    simp only [wellF]
    rw [e c (Nat.le_refl _), e (c.drop (s.a.toNat + s.b.toNat)) (by simp), e (c.take s.a.toNat) (by simp; omega), e ((c.drop s.a.toNat).take s.b.toNat) (by simp; omega)]
theorem well_nil : wellP [] = (0, true) := rfl
theorem well_skip (s : Step) (c : List Step) (hd : s.d = 4) (h : (c.length : Int) < s.a) : wellP (s :: c) = (0, false) := by
 unfold wellP; simp only [List.length_cons, wellF]; rw [if_pos ⟨hd, h⟩]
theorem well_plain (s : Step) (c : List Step) (hd : s.d ≠ 7) (h : ¬ (s.d = 4 ∧ (c.length : Int) < s.a)) : wellP (s :: c) = wellP c := by
 unfold wellP; simp only [List.length_cons, wellF]; rw [if_neg h, if_neg hd]
theorem well_out (s : Step) (c : List Step) (hd : s.d = 7) (h : (c.length : Int) < s.a + s.b) : wellP (s :: c) = (0, false) := by
 unfold wellP; simp only [List.length_cons, wellF]; rw [if_neg (by omega), if_pos hd, if_pos h]
theorem well_either (s : Step) (U V R : List Step) (hd : s.d = 7) (ha : s.a = (U.length : Int)) (hb : s.b = (V.length : Int)) :
  wellP (s :: (U ++ (V ++ R))) = (max (max (wellP R).1 (1 + (wellP U).1)) (1 + (wellP V).1), ((wellP U).2 && (wellP V).2) && (wellP R).2) := by
 have e1 : (U ++ (V ++ R)).drop (s.a.toNat + s.b.toNat) = R := by
  rw [ha, hb, Int.toNat_natCast, Int.toNat_natCast, ← List.append_assoc, ← List.length_append, List.drop_left]
 have e2 : (U ++ (V ++ R)).take s.a.toNat = U := by rw [ha, Int.toNat_natCast, List.take_left]
 have e3 : ((U ++ (V ++ R)).drop s.a.toNat).take s.b.toNat = V := by rw [ha, hb, Int.toNat_natCast, Int.toNat_natCast, List.drop_left, List.take_left]
 have hl : (U ++ (V ++ R)).length = U.length + V.length + R.length := by simp; omega
 unfold wellP
 simp only [List.length_cons, wellF]
 rw [if_neg (by omega), if_pos hd, if_neg (by rw [hl]; omega), e1, e2, e3, well_same _ R.length R (by omega) (Nat.le_refl _), well_same _ U.length U (by omega) (Nat.le_refl _), well_same _ V.length V (by omega) (Nat.le_refl _)]
/-- A step that is an Either, and the parts that it names. -/
theorem either_parts {α : Type} (c : List α) (a b : Int) (ha : 0 ≤ a) (hb : 0 ≤ b) (h : a + b ≤ (c.length : Int)) : ∃ U V R, c = U ++ (V ++ R) ∧ a = (U.length : Int) ∧ b = (V.length : Int) := by
 refine ⟨c.take a.toNat, (c.drop a.toNat).take b.toNat, (c.drop a.toNat).drop b.toNat, by rw [List.take_append_drop, List.take_append_drop], ?_, ?_⟩
 · simp; omega
 · simp; omega
theorem well_deep (f : Nat) : ∀ c : List Step, c.length ≤ f → c.all oneB = true → (wellP c).1 ≤ c.length := by
 induction f with
 | zero =>
  intro c h _
  obtain rfl : c = [] := List.eq_nil_of_length_eq_zero (by omega)
  exact Nat.le_refl _
 | succ f ih =>
  intro c h h1
  cases c with
  | nil => exact Nat.le_refl _
  | cons s c =>
   rw [List.all_cons, Bool.and_eq_true] at h1
   simp only [List.length_cons] at h ⊢
   by_cases h4 : s.d = 4 ∧ (c.length : Int) < s.a
   · rw [well_skip s c h4.1 h4.2]; exact Nat.zero_le _
   by_cases h7 : s.d = 7
   · by_cases ho : (c.length : Int) < s.a + s.b
    · rw [well_out s c h7 ho]; exact Nat.zero_le _
    · obtain ⟨g1, _, g3, _⟩ := one_either s h1.1 h7
     obtain ⟨U, V, R, rfl, ha, hb⟩ := either_parts c s.a s.b (by omega) (by omega) (by omega)
     rw [List.all_append, List.all_append, Bool.and_eq_true, Bool.and_eq_true] at h1
     simp only [List.length_append] at h ⊢
     rw [well_either s U V R h7 ha hb]
     have i1 := ih U (by omega) h1.2.1
     have i2 := ih V (by omega) h1.2.2.1
     have i3 := ih R (by omega) h1.2.2.2
     simp only; omega
   · rw [well_plain s c h7 h4]
    have := ih c (by omega) h1.2
    omega

def checkS (c : List Step) : Int :=
 if (decide (c.length ≤ 24) && c.all oneB) = true then (if (wellP c).2 = true then (if 6 < (wellP c).1 then 5 else 0) else 2) else 1
def namesB (c : List Step) (n : Nat) : Bool := c.any fun s => (decide (s.d = 1) && decide (s.b = (n : Int))) || (decide (s.d = 3) && decide (s.a = (n : Int)))
def cellsS (c : List Step) : List Int := if checkS c = 0 then pick (namesB c) 64 else []
theorem check_ok (c : List Step) (h : checkS c = 0) : c.length ≤ 24 ∧ c.all oneB = true ∧ (wellP c).2 = true ∧ (wellP c).1 ≤ 6 := by
 unfold checkS at h
 split at h
 · rename_i h1
  rw [Bool.and_eq_true] at h1
  have h2 : c.length ≤ 24 := by simpa using h1.1
  split at h
  · split at h
   · cases h
   · exact ⟨h2, h1.2, by assumption, by omega⟩
  · cases h
 · cases h
theorem check_bad (c : List Step) (k : Nat) (x : Step) (hk : c[k]? = some x) (hx : oneB x = false) : checkS c = 1 := by
 unfold checkS; rw [if_neg (by rw [all_bad c oneB k x hk hx]; simp)]
theorem check_many (c : List Step) (h : 24 < c.length) : checkS c = 1 := by
 unfold checkS; rw [if_neg (by rw [decide_eq_false (by omega)]; simp)]
end Go.Proofs.YtclbeboiojgejaaGreat.Code

namespace Go.Proofs.YtclbeboiojgejaaGreat.Code
open Go.ChangeShapes Go.WideShapes Go.ChangeAt Go.RowKit Mem

end Go.Proofs.YtclbeboiojgejaaGreat.Code

namespace Go.Proofs.YtclbeboiojgejaaGreat.Code
open Go.ChangeShapes Go.WideShapes Go.ChangeAt Go.RowKit Mem

/-- What is returned: a number, and a truth. -/
def RetNB (w : World) (r : Nat × Bool) (e : Ending) (w' : World) : Prop := e = .returned (.tuple #[.int .i64 (r.1 : Int), .bool r.2]) ∧ Below w.heap.size w w'
end Go.Proofs.YtclbeboiojgejaaGreat.Code

namespace Go.Proofs.YtclbeboiojgejaaGreat.Code
open Go.ChangeShapes Go.WideShapes Go.ChangeAt Go.RowKit Mem

/-- What is returned: a number. -/
def RetI (w : World) (v : Int) (e : Ending) (w' : World) : Prop := e = .returned (.int .i64 v) ∧ Below w.heap.size w w'
/-- No term is too long. -/
def Lim (l : List Raw) : Prop := ∀ r ∈ l, r.n ≤ 1000000

end Go.Proofs.YtclbeboiojgejaaGreat.Code

namespace Go.Proofs.YtclbeboiojgejaaGreat.Code
open Go.ChangeShapes Go.WideShapes Go.ChangeAt Go.RowKit Mem

/-- Are they few, each with a short term? -/
def smallB (l : List Raw) : Bool := l.all (fun r => decide (r.n ≤ 20)) && decide (l.length ≤ 40)
def smallI (l : List Raw) : Int := if smallB l = true then (l.length : Int) else -1
theorem small_lim (l : List Raw) (h : smallB l = true) : Lim l ∧ l.length ≤ 40 := by
 unfold smallB at h
 rw [Bool.and_eq_true] at h
 refine ⟨fun r hr => ?_, by simpa using h.2⟩
 have := List.all_eq_true.1 h.1 r hr
 have : r.n ≤ 20 := by simpa using this
 omega
set_option maxRecDepth 100000 in
theorem small_c (l : List Raw) (A : Option Addr) (n c : Nat) (w : World) (v : Int) (hat : At w A n l) (hn : n ≤ 9223372036854775807) (hv : smallI l = v) :
  Calls Tryz.prog 9 #[.slice A n c] w (RetI w v) := by
 have HL := Lib.hid hat.len
 have HA := Lib.hid hat
 have HV := Lib.hid hv
 clear hat hv
 go_enter Tryz.func9, Tryz.ntmps9
 go_wp2
 go_loopw [7] (fun i wr => ∃ k : Nat, k ≤ n ∧ i = .int .i64 k ∧ Hid (Below w.heap.size w wr) ∧ Hid ((l.take k).all (fun r => decide (r.n ≤ 20)) = true)) (fun i _ => n - (intOf i).toNat)
 case atStart => exact ⟨0, Nat.zero_le _, rfl, Lib.hid (Below.refl _ _), Lib.hid rfl⟩
 case round =>
  obtain ⟨k, hk, rfl, bb, HALL⟩ := hrel
  generalize wr = w1 at *
  by_cases hlt : k < n
  · obtain ⟨b, off, ⟨⟨sd, sa, sb, st⟩, T, tn, tc⟩, rfl, hx, c0, c1, c2, c3, hrd, htn⟩ := (HA.out.below bb.out).at_ k hlt
   simp only at c0 c1 c2 c3 htn
   have hs := Lib.hid (take_all l (fun r => decide (r.n ≤ 20)) k _ hx)
   have HX := Lib.hid hx
   have HB2 := Lib.hid (bl_alloc bb.out (.cells #[.int .i64 sd, .int .i64 sa, .int .i64 sb, .slice T tn tc] 82))
   clear hx hrd
   by_cases h20 : 20 < tn
   · have HF : Hid (v = -1) := Lib.hid (by
     rw [← HV.out]; unfold smallI smallB
     rw [all_bad l (fun r => decide (r.n ≤ 20)) k _ HX.out (by simpa using h20)]; rfl)
    go_wp2
    go_ret
    exact ⟨ret_int HF.out.symm, HB2.out⟩
   · go_wp2
    go_roundw
    case rel => exact ⟨k + 1, by omega, by go_num, HB2, Lib.hid (by rw [hs.out, HALL.out]; simpa using h20)⟩
    case measure => simp [intOf]; omega
  · have HO : Hid (l.all (fun r => decide (r.n ≤ 20)) = true) := Lib.hid (by have := HALL.out; rwa [List.take_of_length_le (by rw [HL.out]; omega)] at this)
   by_cases h40 : 40 < n
   · have HF : Hid (v = -1) := Lib.hid (by rw [← HV.out]; unfold smallI smallB; rw [HO.out, HL.out, decide_eq_false (by omega)]; rfl)
    go_wp2
    go_ret
    exact ⟨ret_int HF.out.symm, bb.out⟩
   · have HF : Hid (v = (n : Int)) := Lib.hid (by rw [← HV.out]; unfold smallI smallB; rw [HO.out, HL.out, decide_eq_true (by omega)]; rfl)
    go_wp2
    go_ret
    exact ⟨ret_int HF.out.symm, bb.out⟩

/-- The terms lie in other blocks than a slice that grows. -/
def Off (v : Value) (l : List Raw) : Prop := ∀ r ∈ l, ∀ b off, r.T = some ⟨b, off, none⟩ → 0 < r.n → v.ownBlock ≠ some b
section
variable {w w' : World} {v v' : Value} {l m : List Raw} {o : Option Nat}
theorem cell_grown {a : Addr} {u : Value} (h : w.cell? a = some u) (hg : w.grownBy w' o) (hne : o ≠ some a.block) : w'.cell? a = some u := by
 obtain ⟨_, _, _, _, hb⟩ := hg
 have e := hb a.block (cell_lt h) (fun e => hne e.symm)
 unfold World.cell? at h ⊢
 rw [e]; exact h
theorem rd_grown {k n : Nat} {A : Option Addr} {xs : List Value} (h : Rd w k A n xs) (hg : w.grownBy w' o) (hne : ∀ b off, A = some ⟨b, off, none⟩ → 0 < n → o ≠ some b) : Rd w' k A n xs :=
 ⟨h.1, fun hn => by
  obtain ⟨b, off, e, hc⟩ := h.2 hn
  exact ⟨b, off, e, fun j u hu => cell_grown (hc j u hu) hg (hne b off e hn)⟩⟩
theorem Terms.grown (h : Terms w l) (ho : Off v l) (hg : w.grownBy w' v.ownBlock) : Terms w' l := fun r hr =>
 ⟨rd_grown (h r hr).1 hg (fun b off e hn => ho r hr b off e hn), (h r hr).2⟩
theorem rd_lt {k n b off : Nat} {A : Option Addr} {xs : List Value} (h : Rd w k A n xs) (hk : 0 < k) (hn : 0 < n) (e : A = some ⟨b, off, none⟩) : b < w.heap.size := by
 obtain ⟨b', off', e', hc⟩ := h.2 hn
 rw [e] at e'
 injection e' with e'
 injection e' with e1 e2
 subst e1 e2
 have hl : 0 < xs.length := by rw [h.1]; exact Nat.mul_pos hn hk
 have := hc 0 _ (List.getElem?_eq_getElem hl)
 have := cell_lt this
 simpa using this
theorem Off.grown (h : Terms w l) (ho : Off v l) (hat : v'.ownBlock = v.ownBlock ∨ v'.ownBlock = some w.heap.size) : Off v' l := by
 intro r hr b off e hn
 rcases hat with hat | hat
 · rw [hat]; exact ho r hr b off e hn
 · rw [hat]
  have := rd_lt (h r hr).1 (by decide) hn e
  intro e2; injection e2 with e2; omega
theorem Off.app (h : Off v l) (k : Off v m) : Off v (l ++ m) := by
 intro r hr
 rcases List.mem_append.1 hr with hr | hr
 · exact h r hr
 · exact k r hr
end

set_option maxRecDepth 100000 in
theorem tRStep : SliceT Tryz.prog 44 93 4 48 := SliceT.mk_ (z := .agg #[.int .i64 0, .int .i64 0, .int .i64 0, .slice none 0 0]) Tryz.underlying44 (by kernel_rfl) rfl (by decide)
/-- What is returned: a code, of the same steps. -/
def RetC (w : World) (n : Nat) (l : List Raw) (e : Ending) (w' : World) : Prop :=
 ∃ B d m, e = .returned (.slice B n d) ∧ At w' B n m ∧ ss m = ss l ∧ Lim m ∧ Below w.heap.size w w'
end Go.Proofs.YtclbeboiojgejaaGreat.Code

namespace Go.Proofs.YtclbeboiojgejaaGreat.Code
open Go.ChangeShapes Go.WideShapes Go.ChangeAt Go.RowKit Mem

theorem own_lim {w0 w : World} {e size n d : Nat} {B : Option Addr} {xs : List Value} (h : Own w0 w e size (.slice B n d) n xs) : n ≤ d ∧ d ≤ 9223372036854775807 := by
 rcases h.1.2 with ⟨hv, hn⟩ | ⟨g, cap, cur, hv, hb, hc, hnc, hm, hs, ht⟩
 · injection hv with e1 e2 e3
  subst e1 e2 e3
  exact ⟨Nat.le_refl _, by omega⟩
 · injection hv with e1 e2 e3
  subst e1 e3
  unfold maxLen at hm
  exact ⟨hnc, by omega⟩
set_option maxRecDepth 100000 in
set_option maxHeartbeats 2000000 in
theorem ref_c (l : List Raw) (A : Option Addr) (n c : Nat) (w : World) (hat : At w A n l) (hlim : Lim l) (hn : n ≤ 1000000) :
    Calls Tryz.prog 14 #[.slice A n c] w (RetC w n l) := by
  have HL := Lib.hid hat.len
  have HA := Lib.hid hat
  have HM := Lib.hid hlim
  clear hat hlim
  go_enter Tryz.func14, Tryz.ntmps14
  go_wp2
  go_loopw [3, 8] (fun v i wr => ∃ (k : Nat) (m : List Raw), k ≤ n ∧ i = .int .i64 k ∧ Own w wr 93 4 v k (rs m) ∧ Hid (Terms wr m) ∧ Hid (Off v m) ∧ Hid (ss m = (ss l).take k) ∧ Hid (Lim m)) (fun _ i _ => n - (intOf i).toNat)
  case atStart => exact ⟨0, [], Nat.zero_le _, rfl, Own.nil_ (Below.refl _ _), Lib.hid Terms.nil_, Lib.hid (by intro r hr; cases hr), Lib.hid rfl, Lib.hid (by intro r hr; cases hr)⟩
  case round =>
    obtain ⟨k, m, hk, rfl, hown, HT, HO, HSS, HLM⟩ := hrel
    generalize wr = w1 at *
    by_cases hlt : k < n
    · obtain ⟨b, off, ⟨⟨sd, sa, sb, st⟩, T, tn, tc⟩, rfl, hx, c0, c1, c2, c3, hrd, _⟩ := (HA.out.below hown.2).at_ k hlt
      simp only at c0 c1 c2 c3
      have htn : tn ≤ 1000000 := HM.out _ (List.mem_of_getElem? hx)
      have HSX : Hid ((ss l).take (k + 1) = (ss l).take k ++ [⟨sd, sa, sb, st⟩]) := Lib.hid (by rw [List.take_add_one, ss_at l k _ hx]; rfl)
      have HRD := Lib.hid hrd
      obtain ⟨B0, d0, rfl, _⟩ := hown.form
      have HOWN := Lib.hid hown
      have HNE : Hid ((Value.slice B0 k d0).ownBlock ≠ some w1.heap.size) := Lib.hid (by intro e; have := HOWN.out.lt _ e; omega)
      obtain ⟨w2, hw2⟩ : ∃ w2, w2 = w1.alloc (.cells #[.int .i64 sd, .int .i64 sa, .int .i64 sb, .slice T tn tc] 82) := ⟨_, rfl⟩
      have HBK : Hid (Blk w2 w1.heap.size 82 #[.int .i64 sd, .int .i64 sa, .int .i64 sb, .slice T tn tc]) := Lib.hid (by rw [hw2]; exact Blk.new _ _ _)
      have HW2 : Hid (Below w1.heap.size w1 w2) := Lib.hid (by rw [hw2]; exact bl_alloc (Below.refl _ _) _)
      have KEEP : Hid (∀ W, Below w2.heap.size w2 W → W.cell? ⟨w1.heap.size, 0, none⟩ = some (.int .i64 sd) ∧ W.cell? ⟨w1.heap.size, 1, none⟩ = some (.int .i64 sa) ∧ W.cell? ⟨w1.heap.size, 2, none⟩ = some (.int .i64 sb) ∧ W.cell? ⟨w1.heap.size, 3, none⟩ = some (.slice T tn tc)) :=
        Lib.hid (fun W h => ⟨(HBK.out.below h).cell 0 _ rfl, (HBK.out.below h).cell 1 _ rfl, (HBK.out.below h).cell 2 _ rfl, (HBK.out.below h).cell 3 _ rfl⟩)
      have bq : Hid (Below w2.heap.size w2 w2.drew) := Lib.hid (Below.refl _ _).drew
      clear hx hrd hown
      go_wp2_with fail
      rw [← hw2]
      clear hw2
      go_region_held3 (fun w' => w'.cell? ⟨w1.heap.size, 0, none⟩ = some (.int .i64 sd) ∧ w'.cell? ⟨w1.heap.size, 1, none⟩ = some (.int .i64 sa) ∧ w'.cell? ⟨w1.heap.size, 2, none⟩ = some (.int .i64 sb) ∧ w'.cell? ⟨w1.heap.size, 3, none⟩ = some (.slice T tn tc)) (first | exact KB.out | exact KEEP.out _ bq.out | exact KEEP.out _ (bl_alloc bq.out _))
        (first
        | (go_at_call 35
           refine (Term.ref_o st _ _ _ _ ((HRD.out.below HW2.out).below bq.out) htn).mono ?_
           rintro e wq ⟨v1, rfl, r1⟩
           obtain ⟨B1, d1, rfl, _⟩ := r1.form
           have R1 := Lib.hid (r1.wide bq.out)
           replace bq := Lib.hid (bl_trans bq.out r1.2)
           clear r1)
        | (refine append_step (by rfl) _ _ 44 (by rfl) tRStep w _ k (rs m) (by rfl) (((HOWN.out.below HW2.out).below bq.out).alloc _) _ 1 1 [.int .i64 sd, .int .i64 sa, .int .i64 sb, .slice B1 tn d1] (by rfl) (Rd.built _ 4 1 [.int .i64 sd, .int .i64 sa, .int .i64 sb, .slice B1 tn d1] _ rfl) (one_cons rfl (one_cons rfl (one_cons rfl (one_cons rfl one_nil)))) (by omega) (by omega) ?_
           intro v' w' ho' hg hat
           have HO9 := Lib.hid ho'
           have HG9 := Lib.hid hg
           have HAT9 := Lib.hid hat
           have KK := ((HBK.out.below bq.out).alloc (.cells #[.int .i64 sd, .int .i64 sa, .int .i64 sb, .slice B1 tn d1] 93)).grown hg HNE.out
           have KB : Hid (w'.cell? ⟨w1.heap.size, 0, none⟩ = some (.int .i64 sd) ∧ w'.cell? ⟨w1.heap.size, 1, none⟩ = some (.int .i64 sa) ∧ w'.cell? ⟨w1.heap.size, 2, none⟩ = some (.int .i64 sb) ∧ w'.cell? ⟨w1.heap.size, 3, none⟩ = some (.slice T tn tc)) := Lib.hid ⟨KK.cell 0 _ rfl, KK.cell 1 _ rfl, KK.cell 2 _ rfl, KK.cell 3 _ rfl⟩
           clear KK ho' hg hat))
      have hlims := own_lim R1.out
      have HOFFN : Hid (∀ b off, B1 = some ⟨b, off, none⟩ → 0 < tn → (Value.slice B0 k d0).ownBlock ≠ some b) := Lib.hid (by
        rintro b' off' rfl hpos e
        have h1 := HOWN.out.lt _ e
        have h2 := R1.out.base b' rfl
        have h3 := HW2.out.size
        omega)
      have HTT : Hid (Terms w' (m ++ [⟨⟨sd, sa, sb, st⟩, B1, tn, d1⟩])) := Lib.hid (by
        refine Terms.app ?_ ?_
        · exact (((HT.out.below HW2.out).below bq.out).below (bl_alloc (Below.refl _ _) _)).grown HO.out HG9.out
        · intro r hr
          rw [List.mem_singleton] at hr
          subst hr
          obtain ⟨B', d', hv', hrd'⟩ := R1.out.form
          injection hv' with e1 e2 e3
          subst e1 e3
          exact ⟨rd_grown (hrd'.alloc _) HG9.out HOFFN.out, hlims⟩)
      have HOO : Hid (Off v' (m ++ [⟨⟨sd, sa, sb, st⟩, B1, tn, d1⟩])) := Lib.hid (by
        refine Off.app ?_ ?_
        · exact Off.grown (((HT.out.below HW2.out).below bq.out).below (bl_alloc (Below.refl _ _) _)) HO.out HAT9.out
        · intro r hr b' off' e hpos
          rw [List.mem_singleton] at hr
          subst hr
          rcases HAT9.out with h9 | h9
          · rw [h9]; exact HOFFN.out b' off' e hpos
          · rw [h9]
            obtain ⟨B', d', hv', hrd'⟩ := R1.out.form
            injection hv' with e1 e2 e3
            subst e1 e3
            have h1 := rd_lt (hrd'.alloc (.cells #[.int .i64 sd, .int .i64 sa, .int .i64 sb, .slice B1 tn d1] 93)) (by decide) hpos e
            intro e2; injection e2 with e2; omega)
      have HLL : Hid (Lim (m ++ [⟨⟨sd, sa, sb, st⟩, B1, tn, d1⟩])) := Lib.hid (by
        intro r hr
        rcases List.mem_append.1 hr with hr | hr
        · exact HLM.out r hr
        · rw [List.mem_singleton] at hr; subst hr; exact htn)
      have HSN : Hid (ss (m ++ [⟨⟨sd, sa, sb, st⟩, B1, tn, d1⟩]) = (ss l).take (k + 1)) := Lib.hid (by rw [ss_app, HSS.out, HSX.out]; rfl)
      clear hlims
      go_wp2
      go_roundw
      case rel => exact ⟨k + 1, m ++ [⟨⟨sd, sa, sb, st⟩, B1, tn, d1⟩], by omega, by go_num, by rw [rs_app]; exact HO9.out, HTT, HOO, HSN, HLL⟩
      case measure => simp [intOf]; omega
    · obtain rfl : k = n := by omega
      obtain ⟨B, d, rfl, hrd⟩ := hown.form
      have HOWN := Lib.hid hown
      have HRD := Lib.hid hrd
      clear hown hrd
      go_wp2
      go_ret
      exact ⟨B, d, m, rfl, ⟨HRD.out, HT.out⟩, by rw [HSS.out, List.take_of_length_le (by rw [ss_len, HL.out]; exact Nat.le_refl _)], HLM.out, HOWN.out.2⟩
end Go.Proofs.YtclbeboiojgejaaGreat.Code

namespace Go.Proofs.YtclbeboiojgejaaGreat.Code
open Go.ChangeShapes Go.WideShapes Go.ChangeAt Go.RowKit Go.Deep Mem

set_option maxRecDepth 100000 in
theorem slice_cell {H : Type} {enc : TypeId × Value → H} {P : Program} {W : World} {fuel : Nat} {t e : TypeId} {c0 : Value} {x : DataW H × List MemPlace} (ht : P.underlying t = some (.slice e))
  (hf : DataW.trod enc P W 0 (fun _ => true) true fuel t [c0] = some x) : ∃ A n c, c0 = .slice A n c := by
 rcases open_slice ht hf with ⟨hcs, _⟩ | ⟨a, len, cap, m, n', D, Pl, hcs, _⟩
 · simp at hcs
  exact ⟨_, _, _, hcs⟩
 · simp at hcs
  exact ⟨_, _, _, hcs⟩
/-- What a step that came in keeps. -/
def Good (W : World) (y : Raw) : Prop := (Rd W 2 y.T y.n (Term.ops y.s.t) ∧ y.n ≤ y.c ∧ y.c ≤ 9223372036854775807) ∧ Fits y.s.d ∧ Fits y.s.a ∧ Fits y.s.b
set_option maxRecDepth 100000 in
theorem trod_step {H : Type} {enc : TypeId × Value → H} {W : World} {fuel : Nat} {cs' : List Value} {x : DataW H × List MemPlace} (hl : cs'.length = 4)
  (ht : DataW.trod enc Tryz.prog W 0 (fun _ => true) true fuel 82 cs' = some x) : ∃ y : Raw, cs' = rc y ∧ Good W y := by
 obtain ⟨xs, n', _, _, _, hxl, hf⟩ := DataW.trod_struct Tryz.underlying82 ht
 match cs', hl with
 | [c0, c1, c2, c3], _ =>
  have g0 := hf 0 _ rfl
  have g1 := hf 1 _ rfl
  have g2 := hf 2 _ rfl
  have g3 := hf 3 _ rfl
  have k3 : Tryz.prog.cellsOf 3 = 1 := by kernel_rfl
  have k4 : Tryz.prog.cellsOf 80 = 1 := by kernel_rfl
  match xs, hxl with
  | [y0, y1, y2, y3], _ =>
   simp [k3, k4] at g0 g1 g2 g3
   obtain ⟨m0, e0, _, wf0⟩ := DataW.trod_int Tryz.underlying3 g0
   obtain ⟨m1, e1, _, wf1⟩ := DataW.trod_int Tryz.underlying3 g1
   obtain ⟨m2, e2, _, wf2⟩ := DataW.trod_int Tryz.underlying3 g2
   obtain ⟨A, n, c, rfl⟩ := slice_cell Tryz.underlying80 g3
   obtain ⟨hnc, hc, lst, hr, _, _⟩ := Term.open_ops (A := A) (n := n) (c := c) (d := y3.1) (p := y3.2) ⟨_, g3⟩
   simp at e0 e1 e2
   subst e0 e1 e2
   exact ⟨⟨⟨m0, m1, m2, lst⟩, A, n, c⟩, rfl, ⟨hr, hnc, hc⟩, bounds_i64 wf0, bounds_i64 wf1, bounds_i64 wf2⟩
set_option maxRecDepth 100000 in
theorem open_steps {H : Type} {enc : TypeId × Value → H} {W : World} {A : Option Addr} {n c : Nat} {d : DataW H} {p : List MemPlace}
  (h : DataW.Trod enc Tryz.prog W 0 (fun _ => true) true 22 (.slice A n c) d p) :
  n ≤ c ∧ c ≤ 9223372036854775807 ∧ ∃ xs : List Raw, Rd W 4 A n (rs xs) ∧ xs.length = n ∧ ∀ x ∈ xs, Good W x :=
 open_rows Tryz.underlying22 4 (by kernel_rfl) (by decide) rc (fun _ => rfl) (Good W) (fun _ _ _ hl ht => trod_step hl ht) h
theorem good_at {W : World} {A : Option Addr} {n : Nat} {xs : List Raw} (hr : Rd W 4 A n (rs xs)) (hg : ∀ x ∈ xs, Good W x) : At W A n xs := ⟨hr, fun r h => (hg r h).1⟩
end Go.Proofs.YtclbeboiojgejaaGreat.Code

namespace Go.Proofs.YtclbeboiojgejaaGreat.Code
open Mem

theorem behind_well (f : Nat) : ∀ a b : List Step, a.length ≤ f → a.all oneB = true → (wellP a).2 = true → (wellP b).2 = true → wellP (a ++ b) = (max (wellP a).1 (wellP b).1, true) := by
 induction f with
 | zero =>
  intro a b h _ _ hb
  obtain rfl : a = [] := List.eq_nil_of_length_eq_zero (by omega)
  rw [List.nil_append, well_nil, ← hb]
  simp only
  rw [Nat.zero_max]
 | succ f ih =>
  intro a b h ho ha hb
  cases a with
  | nil =>
   rw [List.nil_append, well_nil, ← hb]
   simp only
   rw [Nat.zero_max]
  | cons s c =>
   rw [List.all_cons, Bool.and_eq_true] at ho
   simp only [List.length_cons] at h
   rw [List.cons_append]
   by_cases h4 : s.d = 4 ∧ (c.length : Int) < s.a
   · rw [well_skip s c h4.1 h4.2] at ha; cases ha
   by_cases h7 : s.d = 7
   · by_cases hout : (c.length : Int) < s.a + s.b
    · rw [well_out s c h7 hout] at ha; cases ha
    · obtain ⟨g1, _, g3, _⟩ := one_either s ho.1 h7
     obtain ⟨U, V, R, rfl, hsa, hsb⟩ := either_parts c s.a s.b (by omega) (by omega) (by omega)
     rw [List.all_append, List.all_append, Bool.and_eq_true, Bool.and_eq_true] at ho
     simp only [List.length_append] at h
     rw [well_either s U V R h7 hsa hsb] at ha ⊢
     simp only [Bool.and_eq_true] at ha
     have e := ih R b (by omega) ho.2.2.2 ha.2 hb
     have e2 : U ++ (V ++ R) ++ b = U ++ (V ++ (R ++ b)) := by simp
     rw [e2, well_either s U V (R ++ b) h7 hsa hsb, e, ha.1.1, ha.1.2]
     simp only [Bool.and_self]
     congr 1
     omega
   · rw [well_plain s c h7 h4] at ha ⊢
    rw [well_plain s (c ++ b) h7 (by
     rintro ⟨h8, h9⟩
     apply h4
     refine ⟨h8, ?_⟩
     rw [List.length_append] at h9
     omega)]
    exact ih c b (by omega) ho.2 ha hb
/-- Eithers in Eithers, so many. -/
def nest : Nat → List (Int × Int × Int)
 | 0 => [(5, 0, 0)]
 | i + 1 => (7, ((2 * i + 1 : Nat) : Int), 1) :: (nest i ++ [(5, 0, 0)])
def plain (l : List (Int × Int × Int)) : List Step := l.map fun x => ⟨x.1, x.2.1, x.2.2, []⟩
end Go.Proofs.YtclbeboiojgejaaGreat.Code
