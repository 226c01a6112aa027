/-
 PLAIN LEMMAS ON A RUN THAT KEEPS A LOG: what such a run has so far, and what it stands for. No conditions beyond those that each theorem states. Nothing of the program is named here.
-/
import Derived.Test.YtclbeboiojgejaaGreatCodeA
import Derived.Test.YtclbeboiojgejaaGreatTermB
import Derived.Test.YtclbeboiojgejaaGreatHeapA
import Derived.Test.YtclbeboiojgejaaGreatWritesA
import Derived.Test.YtclbeboiojgejaaGreatMemA
namespace Go.Proofs.YtclbeboiojgejaaGreat.Model
open Go.ChangeShapes Go.WideShapes Go.ChangeAt Go.RowKit Mem Go.Proofs.YtclbeboiojgejaaGreat.Code

/-- What a run has so far. -/
structure St where
 h : List Heap.Cell
 wrote : Nat → Bool
 regs : List Int
 path : List Int
 seen : Nat → Bool
 kind : Int
 why : Int
def upd (f : Nat → Bool) (k : Nat) : Nat → Bool := fun n => if n = k then true else f n
def ended (s : St) (k w : Int) : St := { s with kind := k, why := w }
def tellM (s : St) (t : List Term.Op) : Int := (Term.evalS t s.h s.regs).1
def loaded (s : St) (a b : Int) : St := { s with seen := if s.wrote b.toNat = true then s.seen else upd s.seen b.toNat, regs := s.regs.set a.toNat (Heap.valAt s.h b) }
def setTo (s : St) (a v : Int) : St := { s with regs := s.regs.set a.toNat v }
def stored (s : St) (a v : Int) : St := { s with h := Heap.setAt s.h a ⟨true, v⟩, wrote := upd s.wrote a.toNat }
def onPath (s : St) (p : Int) : St := { s with path := s.path ++ [p] }
def saw (s : St) (f : Nat → Bool) : St := { s with seen := f }
/-- A part of a code. -/
def partF : Nat → List Step → St → St
 | 0, _, s => ended s 1 0
 | _ + 1, [], s => ended s 1 0
 | f + 1, x :: c, s =>
  if x.d = 1 then (if Heap.liveAt s.h x.b = true then partF f c (loaded s x.a x.b) else ended s 4 x.b)
  else if x.d = 2 then partF f c (setTo s x.a (tellM s x.t))
  else if x.d = 3 then (if Heap.liveAt s.h x.a = true then partF f c (stored s x.a (tellM s x.t)) else ended s 4 x.a)
  else if x.d = 4 then (if tellM s x.t = 0 then partF f (c.drop x.a.toNat) s else partF f c s)
  else if x.d = 5 then ended s 2 0
  else if x.d = 6 then ended s 3 x.a
  else
   let a := partF f (c.take x.a.toNat) (onPath s 1)
   let r := if a.kind = 2 then partF f ((c.drop x.a.toNat).take x.b.toNat) (saw (onPath s 2) a.seen) else a
   if r.kind = 1 then partF f (c.drop (x.a.toNat + x.b.toNat)) r else r
def part (c : List Step) (s : St) : St := partF c.length c s
theorem part_same (f : Nat) : ∀ (g : Nat) (c : List Step) (s : St), c.length ≤ f → c.length ≤ g → partF f c s = partF g c s := by
 induction f with
 | zero =>
  intro g c s h1 _
  obtain rfl : c = [] := List.eq_nil_of_length_eq_zero (by omega)
  cases g <;> rfl
 | succ f ih =>
  intro g c s h1 h2
  cases c with
  | nil => cases g <;> rfl
  | cons x c =>
   cases g with
   | zero => simp at h2
   | succ g =>
    simp only [List.length_cons] at h1 h2
    have e : ∀ (y : List Step) (t : St), y.length ≤ c.length → partF f y t = partF g y t := fun y t hy => ih g y t (by omega) (by omega)
    simp only [partF]
    rw [e c _ (Nat.le_refl _), e c _ (Nat.le_refl _), e c _ (Nat.le_refl _), e c _ (Nat.le_refl _), e (c.drop x.a.toNat) _ (by simp), e (c.take x.a.toNat) _ (by simp; omega),
     e ((c.drop x.a.toNat).take x.b.toNat) _ (by simp; omega), e (c.drop (x.a.toNat + x.b.toNat)) _ (by simp)]
section
variable (x : Step) (c : List Step) (s : St)
theorem part_load (h : x.d = 1) : part (x :: c) s = if Heap.liveAt s.h x.b = true then part c (loaded s x.a x.b) else ended s 4 x.b := by
 unfold part; simp only [List.length_cons, partF]; rw [if_pos h]
theorem part_set (h : x.d = 2) : part (x :: c) s = part c (setTo s x.a (tellM s x.t)) := by
 unfold part; simp only [List.length_cons, partF]; rw [if_neg (by omega), if_pos h]
theorem part_store (h : x.d = 3) : part (x :: c) s = if Heap.liveAt s.h x.a = true then part c (stored s x.a (tellM s x.t)) else ended s 4 x.a := by
 unfold part; simp only [List.length_cons, partF]; rw [if_neg (by omega), if_neg (by omega), if_pos h]
theorem part_skip (h : x.d = 4) : part (x :: c) s = if tellM s x.t = 0 then part (c.drop x.a.toNat) s else part c s := by
 unfold part; simp only [List.length_cons, partF]; rw [if_neg (by omega), if_neg (by omega), if_neg (by omega), if_pos h]
 rw [part_same c.length (c.drop x.a.toNat).length _ _ (by simp) (Nat.le_refl _)]
theorem part_retry (h : x.d = 5) : part (x :: c) s = ended s 2 0 := by
 unfold part; simp only [List.length_cons, partF]; rw [if_neg (by omega), if_neg (by omega), if_neg (by omega), if_neg (by omega), if_pos h]
theorem part_fail (h : x.d = 6) : part (x :: c) s = ended s 3 x.a := by
 unfold part; simp only [List.length_cons, partF]; rw [if_neg (by omega), if_neg (by omega), if_neg (by omega), if_neg (by omega), if_neg (by omega), if_pos h]
/-- An Either's parts. -/
def eitherS (U V : List Step) (s : St) : St := if (part U (onPath s 1)).kind = 2 then part V (saw (onPath s 2) (part U (onPath s 1)).seen) else part U (onPath s 1)
theorem part_either (U V R : List Step) (h : x.d = 7) (ha : x.a = (U.length : Int)) (hb : x.b = (V.length : Int)) :
  part (x :: (U ++ (V ++ R))) s = if (eitherS U V s).kind = 1 then part R (eitherS U V s) else eitherS U V s := by
 have e1 : (U ++ (V ++ R)).drop (x.a.toNat + x.b.toNat) = R := by
  rw [ha, hb, Int.toNat_natCast, Int.toNat_natCast, ← List.append_assoc, ← List.length_append, List.drop_left]
 have e2 : (U ++ (V ++ R)).take x.a.toNat = U := by rw [ha, Int.toNat_natCast, List.take_left]
 have e3 : ((U ++ (V ++ R)).drop x.a.toNat).take x.b.toNat = V := by rw [ha, hb, Int.toNat_natCast, Int.toNat_natCast, List.drop_left, List.take_left]
 have hl : (U ++ (V ++ R)).length = U.length + V.length + R.length := by simp; omega
 unfold eitherS
 unfold part
 simp only [List.length_cons, partF]
 rw [if_neg (by omega), if_neg (by omega), if_neg (by omega), if_neg (by omega), if_neg (by omega), if_neg (by omega), e1, e2, e3]
 simp only [part_same _ R.length R _ (show R.length ≤ (U ++ (V ++ R)).length by omega) (Nat.le_refl _), part_same _ U.length U _ (show U.length ≤ (U ++ (V ++ R)).length by omega) (Nat.le_refl _),
  part_same _ V.length V _ (show V.length ≤ (U ++ (V ++ R)).length by omega) (Nat.le_refl _)]
end
/-- The first state. -/
def s0 (h : List Heap.Cell) : St := ⟨h, fun _ => false, List.replicate 8 0, [], fun _ => false, 0, 0⟩
structure Out where
 kind : Int
 why : Int
 regs : List Int
 path : List Int
 seen : List Int
 writes : List Heap.Write
 deriving DecidableEq
def writesS (s : St) : List Heap.Write := (pick s.wrote s.h.length).map fun i => ⟨i, Heap.valAt s.h i⟩
def outS (s : St) : Out := if s.kind = 1 then ⟨s.kind, s.why, s.regs, s.path, pick s.seen 64, writesS s⟩ else ⟨s.kind, s.why, [], [], pick s.seen 64, []⟩
def okR (c : List Step) (h : List Heap.Cell) : Bool := decide (checkS c = 0) && Heap.rightB h
def runS (c : List Step) (h : List Heap.Cell) : Out × List Heap.Cell × Bool :=
 if okR c h = true then (outS (part c (s0 h)), if (part c (s0 h)).kind = 1 then (part c (s0 h)).h else h, true) else (⟨0, 0, [], [], [], []⟩, h, false)
end Go.Proofs.YtclbeboiojgejaaGreat.Model

namespace Go.Proofs.YtclbeboiojgejaaGreat.Model
open Go.ChangeShapes Go.WideShapes Go.ChangeAt Go.RowKit Mem Go.Proofs.YtclbeboiojgejaaGreat.Code

theorem well_tail (x : Step) (c : List Step) (ho : (x :: c).all oneB = true) (h : (wellP (x :: c)).2 = true) : (wellP c).2 = true := by
 rw [List.all_cons, Bool.and_eq_true] at ho
 by_cases h7 : x.d = 7
 · have h1 := one_either x ho.1 h7
  by_cases hlt : (c.length : Int) < x.a + x.b
  · rw [well_out x c h7 hlt] at h; cases h
  · obtain ⟨U, V, R, rfl, ha, hb⟩ := either_parts c x.a x.b (by omega) (by omega) (by omega)
   rw [well_either x U V R h7 ha hb, Bool.and_eq_true, Bool.and_eq_true] at h
   obtain ⟨⟨hu, hv⟩, hr⟩ := h
   have h2 := ho.2
   rw [List.all_append, List.all_append, Bool.and_eq_true, Bool.and_eq_true] at h2
   obtain ⟨ou, ov, or⟩ := h2
   have e1 := behind_well V.length V R (Nat.le_refl _) ov hv hr
   rw [behind_well U.length U (V ++ R) (Nat.le_refl _) ou hu (by rw [e1])]
 · by_cases h4 : x.d = 4 ∧ (c.length : Int) < x.a
  · rw [well_skip x c h4.1 h4.2] at h; cases h
  · rwa [well_plain x c h7 h4] at h
theorem well_drop (k : Nat) : ∀ c : List Step, c.all oneB = true → (wellP c).2 = true → (wellP (c.drop k)).2 = true := by
 induction k with
 | zero => intro c _ h; exact h
 | succ k ih =>
  intro c ho h
  cases c with
  | nil => exact h
  | cons x c =>
   have h2 := well_tail x c ho h
   rw [List.all_cons, Bool.and_eq_true] at ho
   exact ih c ho.2 h2
theorem all_drop {c : List Step} (k : Nat) (h : c.all oneB = true) : (c.drop k).all oneB = true :=
 List.all_eq_true.2 fun x hx => List.all_eq_true.1 h x (List.mem_of_mem_drop hx)
/-- How a part ended so far is of no weight. -/
theorem part_ended (f : Nat) : ∀ (c : List Step) (s : St) (k w : Int), partF f c (ended s k w) = partF f c s := by
 induction f with
 | zero => intro c s k w; rfl
 | succ f ih =>
  intro c s k w
  cases c with
  | nil => rfl
  | cons x c =>
   have e1 : ∀ a b, loaded (ended s k w) a b = ended (loaded s a b) k w := fun _ _ => rfl
   have e2 : ∀ a v, setTo (ended s k w) a v = ended (setTo s a v) k w := fun _ _ => rfl
   have e3 : ∀ a v, stored (ended s k w) a v = ended (stored s a v) k w := fun _ _ => rfl
   have e4 : ∀ p, onPath (ended s k w) p = ended (onPath s p) k w := fun _ => rfl
   have e5 : ∀ (t : St) g, saw (ended t k w) g = ended (saw t g) k w := fun _ _ => rfl
   have e6 : ∀ t, tellM (ended s k w) t = tellM s t := fun _ => rfl
   have e7 : (ended s k w).h = s.h := rfl
   have e8 : ∀ k2 w2, ended (ended s k w) k2 w2 = ended s k2 w2 := fun _ _ => rfl
   simp only [partF, e1, e2, e3, e4, e5, e6, e7, e8, ih]
theorem part_end (c : List Step) (s : St) (k w : Int) : part c (ended s k w) = part c s := part_ended _ c s k w
theorem ended_ne (s : St) (k w : Int) (h : k ≠ 1) : ¬ (ended s k w).kind = 1 := h
/-- What a part leaves as it was. -/
structure Keeps (s r : St) : Prop where
 right : Heap.rightB s.h = true → Heap.rightB r.h = true
 len : r.h.length = s.h.length
 live : ∀ i, Heap.liveAt r.h i = Heap.liveAt s.h i
 regs : r.regs.length = s.regs.length
 seen : ∀ n, s.seen n = true → r.seen n = true
 wrote : ∀ n, s.wrote n = true → r.wrote n = true
 same : ∀ n : Nat, r.wrote n = false → r.h[n]? = s.h[n]?
 wlive : ∀ n : Nat, r.wrote n = true → s.wrote n = true ∨ Heap.liveAt s.h (n : Int) = true
theorem Keeps.refl (s : St) : Keeps s s := ⟨id, rfl, fun _ => rfl, rfl, fun _ h => h, fun _ h => h, fun _ _ => rfl, fun _ h => .inl h⟩
theorem Keeps.trans {s t r : St} (h : Keeps s t) (k : Keeps t r) : Keeps s r :=
  ⟨fun e => k.right (h.right e), k.len.trans h.len, fun i => (k.live i).trans (h.live i), k.regs.trans h.regs, fun n e => k.seen n (h.seen n e), fun n e => k.wrote n (h.wrote n e),
   fun n e => (k.same n e).trans (h.same n (by
     cases ht : t.wrote n with
     | false => rfl
     | true => rw [k.wrote n ht] at e; cases e)),
   fun n e => by
     rcases k.wlive n e with e1 | e1
     · exact h.wlive n e1
     · exact .inr (by rw [← h.live]; exact e1)⟩
theorem keeps_ended (s : St) (k w : Int) : Keeps s (ended s k w) := ⟨id, rfl, fun _ => rfl, rfl, fun _ h => h, fun _ h => h, fun _ _ => rfl, fun _ h => .inl h⟩
theorem keeps_loaded (s : St) (a b : Int) : Keeps s (loaded s a b) :=
 ⟨id, rfl, fun _ => rfl, by show (s.regs.set _ _).length = _; simp, fun n h => by
  show (if s.wrote b.toNat = true then s.seen else upd s.seen b.toNat) n = true
  split
  · exact h
  · unfold upd; split
   · rfl
   · exact h, fun _ h => h, fun _ _ => rfl, fun _ h => .inl h⟩
theorem keeps_set (s : St) (a v : Int) : Keeps s (setTo s a v) :=
 ⟨id, rfl, fun _ => rfl, by show (s.regs.set _ _).length = _; simp, fun _ h => h, fun _ h => h, fun _ _ => rfl, fun _ h => .inl h⟩
theorem keeps_path (s : St) (p : Int) : Keeps s (onPath s p) := ⟨id, rfl, fun _ => rfl, rfl, fun _ h => h, fun _ h => h, fun _ _ => rfl, fun _ h => .inl h⟩
theorem tell_v (s : St) (t : List Term.Op) : Heap.vB (tellM s t) = true := by
 unfold tellM
 by_cases hc : Term.checkS t = 0
 · by_cases hr : Heap.rightB s.h = true
  · obtain ⟨_, _, h3, h4⟩ := Term.check_ok t hc
   obtain ⟨T, hk, rfl⟩ := Term.well_tree t h4
   rw [Term.eval_tree T hk hc s.h s.regs hr]
   split
   · exact Term.val_v s.h s.regs hr T hk h3
   · decide
  · unfold Term.evalS; rw [if_pos hc, if_neg hr]; decide
 · unfold Term.evalS; rw [if_neg hc]; show Heap.vB 0 = true; decide
theorem keeps_stored (s : St) (a v : Int) (hl : Heap.liveAt s.h a = true) (hv : Heap.vB v = true) : Keeps s (stored s a v) := by
 have hcell : Heap.cellB ⟨true, v⟩ = true := by unfold Heap.cellB; rw [hv]; rfl
 obtain ⟨h0, h1, x, hx, hxl⟩ := Heap.live_in s.h a hl
 refine ⟨fun h => Heap.set_right s.h a _ h hcell, Heap.setAt_len _ _ _, fun i => Heap.set_live s.h a v hl i, rfl, fun _ h => h, fun n h => ?_, fun n h => ?_, fun n h => ?_⟩
 · show upd s.wrote a.toNat n = true
  unfold upd; split
  · rfl
  · exact h
 · have h2 : upd s.wrote a.toNat n = false := h
  unfold upd at h2
  split at h2
  · cases h2
  · rename_i hne
   show (Heap.setAt s.h a ⟨true, v⟩)[n]? = _
   unfold Heap.setAt
   rw [if_neg (by omega), List.getElem?_set_ne (by omega)]
 · have h2 : upd s.wrote a.toNat n = true := h
  unfold upd at h2
  split at h2
  · rename_i he
   refine .inr ?_
   have : (n : Int) = a := by omega
   rw [this]; exact hl
  · exact .inl h2
theorem keeps_saw (s t : St) (h : Keeps s t) : Keeps s (saw (onPath s 2) t.seen) := ⟨id, rfl, fun _ => rfl, rfl, h.seen, fun _ h => h, fun _ _ => rfl, fun _ h => .inl h⟩
theorem part_keeps (f : Nat) : ∀ (c : List Step) (s : St), Keeps s (partF f c s) := by
 induction f with
 | zero => intro c s; exact keeps_ended s 1 0
 | succ f ih =>
  intro c s
  cases c with
  | nil => exact keeps_ended s 1 0
  | cons x c =>
   simp only [partF]
   split
   · split
    · exact (keeps_loaded s _ _).trans (ih c _)
    · exact keeps_ended s _ _
   split
   · exact (keeps_set s _ _).trans (ih c _)
   split
   · split
    · rename_i hl
     exact (keeps_stored s _ _ hl (tell_v s _)).trans (ih c _)
    · exact keeps_ended s _ _
   split
   · split
    · exact ih _ s
    · exact ih _ s
   split
   · exact keeps_ended s _ _
   split
   · exact keeps_ended s _ _
   · have h1 : Keeps s (partF f (c.take x.a.toNat) (onPath s 1)) := (keeps_path s 1).trans (ih _ _)
    have h2 : Keeps s (if (partF f (c.take x.a.toNat) (onPath s 1)).kind = 2 then partF f ((c.drop x.a.toNat).take x.b.toNat) (saw (onPath s 2) (partF f (c.take x.a.toNat) (onPath s 1)).seen) else partF f (c.take x.a.toNat) (onPath s 1)) := by
     split
     · exact (keeps_saw s _ h1).trans (ih _ _)
     · exact h1
    revert h2
    generalize (if (partF f (c.take x.a.toNat) (onPath s 1)).kind = 2 then partF f ((c.drop x.a.toNat).take x.b.toNat) (saw (onPath s 2) (partF f (c.take x.a.toNat) (onPath s 1)).seen) else partF f (c.take x.a.toNat) (onPath s 1)) = r
    intro h2
    split
    · exact h2.trans (ih _ _)
    · exact h2
theorem keeps (c : List Step) (s : St) : Keeps s (part c s) := part_keeps _ c s
end Go.Proofs.YtclbeboiojgejaaGreat.Model

namespace Go.Proofs.YtclbeboiojgejaaGreat.Model
open Go.ChangeShapes Go.WideShapes Go.ChangeAt Go.RowKit Mem Go.Proofs.YtclbeboiojgejaaGreat.Code

theorem reck_kind (t : List Term.Op) (h : reckonsB t = true) : Term.checkS t = 0 ∧ ∀ o ∈ t, o.kind ≠ 2 := by
 unfold reckonsB at h
 rw [Bool.and_eq_true, decide_eq_true_eq, decide_eq_true_eq] at h
 obtain ⟨h0, h1⟩ := h
 refine ⟨h0, fun o ho e => ?_⟩
 obtain ⟨_, _, g3, _⟩ := Term.check_ok t h0
 have hone := List.all_eq_true.1 g3 o ho
 unfold Term.oneB at hone
 rw [if_neg (by omega), if_pos e, decide_eq_true_eq] at hone
 have hmem : o.n ∈ Term.cellsS t := by
  unfold Term.cellsS
  rw [if_pos h0]
  refine (pick_mem _ 64 o.n).2 ⟨o.n.toNat, by omega, ?_, by omega⟩
  rw [List.any_eq_true]
  exact ⟨o, ho, by rw [Bool.and_eq_true, decide_eq_true_eq, decide_eq_true_eq]; exact ⟨e, by omega⟩⟩
 have := List.length_pos_of_mem hmem
 omega
/-- A term of registers alone does not hang on the heap. -/
theorem tell_free (t : List Term.Op) (hk : reckonsB t = true) (h g : List Heap.Cell) (rg : List Int) (h1 : Heap.rightB h = true) (h2 : Heap.rightB g = true) : Term.evalS t h rg = Term.evalS t g rg := by
 obtain ⟨h0, hn⟩ := reck_kind t hk
 unfold Term.evalS
 rw [if_pos h0, if_pos h0, if_pos h1, if_pos h2, Term.run_congr h g rg rg t (fun o ho xs => by
  unfold Term.tellS
  rw [if_neg (hn o ho), if_neg (hn o ho)]) []]
theorem one_reck (x : Step) (ho : oneB x = true) (hd : x.d = 2 ∨ x.d = 3 ∨ x.d = 4) : reckonsB x.t = true := by
 unfold oneB at ho
 rcases hd with h | h | h
 · rw [if_neg (by omega), if_pos h, Bool.and_eq_true] at ho; exact ho.1
 · rw [if_neg (by omega), if_neg (by omega), if_pos h, Bool.and_eq_true] at ho; exact ho.1
 · rw [if_neg (by omega), if_neg (by omega), if_neg (by omega), if_pos h, Bool.and_eq_true] at ho; exact ho.1
/-- Runs of one heap and one row of registers, behind unlike paths; and, if b, of one set of what was written. -/
structure Like (p p' : List Int) (d d' : Nat → Bool) (b : Bool) (s t : St) : Prop where
 h : s.h = t.h
 regs : s.regs = t.regs
 path : ∃ q, s.path = p ++ q ∧ t.path = p' ++ q
 more : b = true → s.wrote = t.wrote ∧ ∃ D : Nat → Bool, ∀ n, s.seen n = (d n || D n) ∧ t.seen n = (d' n || D n)
section
variable {p p' : List Int} {d d' : Nat → Bool} {b : Bool} {s t : St}
theorem Like.tell (h : Like p p' d d' b s t) (x : List Term.Op) : tellM s x = tellM t x := by unfold tellM; rw [h.h, h.regs]
theorem Like.set_ (h : Like p p' d d' b s t) (a v : Int) : Like p p' d d' b (setTo s a v) (setTo t a v) :=
 ⟨h.h, by show s.regs.set _ _ = t.regs.set _ _; rw [h.regs], h.path, h.more⟩
theorem Like.path_ (h : Like p p' d d' b s t) (x : Int) : Like p p' d d' b (onPath s x) (onPath t x) := by
 obtain ⟨q, h1, h2⟩ := h.path
 exact ⟨h.h, h.regs, ⟨q ++ [x], by show s.path ++ [x] = _; rw [h1, List.append_assoc], by show t.path ++ [x] = _; rw [h2, List.append_assoc]⟩, h.more⟩
end
end Go.Proofs.YtclbeboiojgejaaGreat.Model

namespace Go.Proofs.YtclbeboiojgejaaGreat.Model
open Go.ChangeShapes Go.WideShapes Go.ChangeAt Go.RowKit Mem Go.Proofs.YtclbeboiojgejaaGreat.Code

/-! What a run hangs on. -/
/-- Runs on heaps that agree in what is written, and in some cells beside. -/
structure Sim (F : Nat → Bool) (s t : St) : Prop where
 rs : Heap.rightB s.h = true
 rt : Heap.rightB t.h = true
 len : s.h.length = t.h.length
 live : ∀ i, Heap.liveAt s.h i = Heap.liveAt t.h i
 val : ∀ n : Nat, (s.wrote n = true ∨ F n = true) → s.h[n]? = t.h[n]?
 wrote : s.wrote = t.wrote
 regs : s.regs = t.regs
 path : s.path = t.path
 seen : s.seen = t.seen
section
variable {F : Nat → Bool} {s t : St}
theorem Sim.path_ (h : Sim F s t) (x : Int) : Sim F (onPath s x) (onPath t x) :=
 ⟨h.rs, h.rt, h.len, h.live, h.val, h.wrote, h.regs, by show s.path ++ [x] = t.path ++ [x]; rw [h.path], h.seen⟩
theorem Sim.tell (h : Sim F s t) (x : Step) (ho : oneB x = true) (hd : x.d = 2 ∨ x.d = 3 ∨ x.d = 4) : tellM s x.t = tellM t x.t := by
 unfold tellM; rw [h.regs, tell_free x.t (one_reck x ho hd) s.h t.h t.regs h.rs h.rt]
theorem Sim.set_ (h : Sim F s t) (a v : Int) : Sim F (setTo s a v) (setTo t a v) :=
 ⟨h.rs, h.rt, h.len, h.live, h.val, h.wrote, by show s.regs.set _ _ = t.regs.set _ _; rw [h.regs], h.path, h.seen⟩
end
/-! What is written. -/
end Go.Proofs.YtclbeboiojgejaaGreat.Model

namespace Go.Proofs.YtclbeboiojgejaaGreat.Model
open Go.ChangeShapes Go.WideShapes Go.ChangeAt Go.RowKit Mem Go.Proofs.YtclbeboiojgejaaGreat.Code

/-- Where there is no Fail, and no Bad, there is no why. -/
theorem part_why (f : Nat) : ∀ (c : List Step) (s : St), (partF f c s).kind = 1 → (partF f c s).why = 0 := by
 induction f with
 | zero => intro c s _; rfl
 | succ f ih =>
  intro c s
  cases c with
  | nil => intro _; rfl
  | cons x c =>
   simp only [partF]
   split
   · split
    · exact ih c _
    · intro h; exact absurd h (ended_ne s 4 x.b (by decide))
   split
   · exact ih c _
   split
   · split
    · exact ih c _
    · intro h; exact absurd h (ended_ne s 4 x.a (by decide))
   split
   · split
    · exact ih _ s
    · exact ih _ s
   split
   · intro h; exact absurd h (ended_ne s 2 0 (by decide))
   split
   · intro h; exact absurd h (ended_ne s 3 x.a (by decide))
   · have h2 : ∀ r : St, r = (if (partF f (c.take x.a.toNat) (onPath s 1)).kind = 2 then partF f ((c.drop x.a.toNat).take x.b.toNat) (saw (onPath s 2) (partF f (c.take x.a.toNat) (onPath s 1)).seen) else partF f (c.take x.a.toNat) (onPath s 1)) → r.kind = 1 → r.why = 0 := by
     rintro r rfl
     split
     · exact ih _ _
     · exact ih _ _
    revert h2
    generalize (if (partF f (c.take x.a.toNat) (onPath s 1)).kind = 2 then partF f ((c.drop x.a.toNat).take x.b.toNat) (saw (onPath s 2) (partF f (c.take x.a.toNat) (onPath s 1)).seen) else partF f (c.take x.a.toNat) (onPath s 1)) = r
    intro h2
    split
    · exact ih _ _
    · exact h2 r rfl
theorem part_no (c : List Step) (s : St) (h : (part c s).kind = 1) : (part c s).why = 0 := part_why _ c s h
/-! Two codes, with all registers set to 0 between. -/
/-! A Skip. -/
end Go.Proofs.YtclbeboiojgejaaGreat.Model

namespace Go.Proofs.YtclbeboiojgejaaGreat.Model
open Go.ChangeShapes Go.WideShapes Go.ChangeAt Go.RowKit Mem Go.Proofs.YtclbeboiojgejaaGreat.Code

/-- What a run that keeps a log has so far. -/
structure CS where
 regs : List Int
 path : List Int
 log : List Heap.Write
 seen : List Int
 why : Int
/-- What it stands for. -/
def abs (h : List Heap.Cell) (m : CS) (k : Int) : St :=
 ⟨Heap.putAll h m.log, fun n => m.log.any (fun x => decide (x.cell = (n : Int))), m.regs, m.path, fun n => m.seen.any (fun z => decide (z = (n : Int))), k, m.why⟩
/-- Such a run, with room for so many steps more. -/
structure Good (h : List Heap.Cell) (m : CS) (left : Nat) : Prop where
 right : Heap.rightB h = true
 live : m.log.all (fun w => Heap.liveAt h w.cell) = true
 vals : m.log.all (fun w => Heap.vB w.value) = true
 cnt : m.log.length + left ≤ 24
 regs : m.regs.length = 8
 path : m.path.length + left ≤ 24
 seen : m.seen.length + left ≤ 24
 cells : ∀ z ∈ m.seen, 0 ≤ z ∧ z < 64
section
variable {h : List Heap.Cell} {m : CS} {left : Nat}
theorem Good.weak (g : Good h m left) (k : Nat) (hk : k ≤ left) : Good h m k :=
 ⟨g.right, g.live, g.vals, by have := g.cnt; omega, g.regs, by have := g.path; omega, by have := g.seen; omega, g.cells⟩
theorem Good.log (g : Good h m left) : Writes.rightB ⟨m.log, []⟩ = true := by
 rw [Writes.right_parts]
 refine ⟨by have := g.cnt; show m.log.length ≤ 24; omega, List.all_eq_true.2 fun x hx => ?_, by show 0 ≤ 6; omega, rfl⟩
 have h1 := List.all_eq_true.1 g.live x hx
 have h2 := List.all_eq_true.1 g.vals x hx
 obtain ⟨h3, _, _⟩ := Heap.live_in h _ h1
 unfold Writes.oneB
 rw [decide_eq_true h3, h2]; rfl
theorem Good.heap (g : Good h m left) : Heap.rightB (Heap.putAll h m.log) = true := Heap.putAll_right h m.log g.right g.vals
theorem Good.liveAll (g : Good h m left) (b : Int) (k : Int) : Heap.liveAt (abs h m k).h b = Heap.liveAt h b := Heap.putAll_live h m.log g.live b
theorem Good.get (g : Good h m left) (b : Int) : Heap.getS h b = if Heap.liveAt h b = true then (Heap.valAt h b, 0) else (0, 3) := by
 unfold Heap.getS; rw [if_pos g.right]
theorem Good.logget (g : Good h m left) (b : Int) : Writes.getS ⟨m.log, []⟩ b = Writes.orNo (Writes.getL m.log b) := by
 unfold Writes.getS; rw [if_pos g.log]
theorem Good.tell (g : Good h m left) (t : List Term.Op) (ht : reckonsB t = true) (k : Int) : tellM (abs h m k) t = (Term.evalS t h m.regs).1 := by
 unfold tellM
 rw [tell_free t ht (abs h m k).h h (abs h m k).regs g.heap g.right]; rfl
theorem Good.val (g : Good h m left) (b : Int) (hl : Heap.liveAt h b = true) (k : Int) : Heap.valAt (abs h m k).h b = (Writes.getL m.log b).getD (Heap.valAt h b) := by
 obtain ⟨h0, h1, x, hx, _⟩ := Heap.live_in h b hl
 have hb : ((b.toNat : Nat) : Int) = b := by omega
 have := Heap.putAll_at h m.log g.live b.toNat x hx
 show Heap.valAt (Heap.putAll h m.log) b = _
 rw [← hb, Heap.val_at _ _ _ this, Heap.val_at h b.toNat x hx, Writes.lastV_get]
theorem wrote_get (l : List Heap.Write) (b : Int) (hb : 0 ≤ b) : l.any (fun x => decide (x.cell = (b.toNat : Int))) = (Writes.getL l b).isSome := by
 have e : ((b.toNat : Nat) : Int) = b := by omega
 rw [e]
 cases hg : Writes.getL l b with
 | none =>
  rw [Option.isSome_none, Bool.eq_false_iff]
  intro h
  obtain ⟨x, hx, hc⟩ := List.any_eq_true.1 h
  obtain ⟨v, hv⟩ := Writes.get_has l b x hx (of_decide_eq_true hc)
  rw [hg] at hv; cases hv
 | some v =>
  rw [Option.isSome_some]
  exact List.any_eq_true.2 ⟨_, Writes.get_some l b v hg, by simp⟩
/-- A Load of a cell that is live: of one that was stored, and of one that was not. -/
def loadC (h : List Heap.Cell) (m : CS) (a b : Int) : CS :=
 match Writes.getL m.log b with
 | some v => { m with regs := m.regs.set a.toNat v }
 | none => { m with regs := m.regs.set a.toNat (Heap.valAt h b), seen := m.seen ++ [b] }
def setC (m : CS) (a v : Int) : CS := { m with regs := m.regs.set a.toNat v }
def storeC (m : CS) (a v : Int) : CS := { m with log := m.log ++ [⟨a, v⟩] }
def pathC (m : CS) (p : Int) : CS := { m with path := m.path ++ [p] }
def whyC (m : CS) (v : Int) : CS := { m with why := v }
theorem load_abs (g : Good h m left) (a b : Int) (hl : Heap.liveAt h b = true) (k : Int) : loaded (abs h m k) a b = abs h (loadC h m a b) k := by
 obtain ⟨h0, _, _⟩ := Heap.live_in h b hl
 unfold loaded loadC
 rw [g.val b hl k]
 have hw : (abs h m k).wrote b.toNat = (Writes.getL m.log b).isSome := wrote_get m.log b h0
 rw [hw]
 cases hg : Writes.getL m.log b with
 | some v => rfl
 | none =>
  simp only [Option.isSome_none, Bool.false_eq_true, if_false, Option.getD_none]
  unfold abs
  simp only [St.mk.injEq, true_and, and_true]
  funext n
  unfold upd
  rw [List.any_append, List.any_cons, List.any_nil, Bool.or_false]
  by_cases hn : n = b.toNat
  · rw [if_pos hn, decide_eq_true (show b = (n : Int) by omega), Bool.or_true]
  · rw [if_neg hn, decide_eq_false (show ¬ b = (n : Int) by omega), Bool.or_false]
theorem store_abs (a v k : Int) (ha : 0 ≤ a) : stored (abs h m k) a v = abs h (storeC m a v) k := by
 unfold stored storeC abs
 simp only [St.mk.injEq, and_true]
 refine ⟨by rw [Heap.putAll_append]; rfl, ?_⟩
 funext n
 unfold upd
 rw [List.any_append, List.any_cons, List.any_nil, Bool.or_false]
 by_cases hn : n = a.toNat
 · rw [if_pos hn, decide_eq_true (show a = (n : Int) by omega), Bool.or_true]
 · rw [if_neg hn, decide_eq_false (show ¬ a = (n : Int) by omega), Bool.or_false]
theorem Good.load_ (g : Good h m (left + 1)) (a b : Int) (hb : 0 ≤ b ∧ b < 64) : Good h (loadC h m a b) left := by
 have hc := g.cnt
 have hp := g.path
 have hs := g.seen
 unfold loadC
 cases Writes.getL m.log b with
 | some v => exact ⟨g.right, g.live, g.vals, by show m.log.length + _ ≤ _; omega, by show (m.regs.set _ _).length = 8; rw [List.length_set]; exact g.regs, by show m.path.length + _ ≤ _; omega, by show m.seen.length + _ ≤ _; omega, g.cells⟩
 | none =>
  refine ⟨g.right, g.live, g.vals, by show m.log.length + _ ≤ _; omega, by show (m.regs.set _ _).length = 8; rw [List.length_set]; exact g.regs, by show m.path.length + _ ≤ _; omega, by show (m.seen ++ [b]).length + _ ≤ _; rw [List.length_append, List.length_singleton]; omega, ?_⟩
  intro z hz
  rcases List.mem_append.1 hz with hz | hz
  · exact g.cells z hz
  · rw [List.mem_singleton.1 hz]; exact hb
theorem Good.set_ (g : Good h m (left + 1)) (a v : Int) : Good h (setC m a v) left := by
 have hc := g.cnt
 have hp := g.path
 have hs := g.seen
 exact ⟨g.right, g.live, g.vals, by show m.log.length + _ ≤ _; omega, by show (m.regs.set _ _).length = 8; rw [List.length_set]; exact g.regs, by show m.path.length + _ ≤ _; omega, by show m.seen.length + _ ≤ _; omega, g.cells⟩
theorem Good.store_ (g : Good h m (left + 1)) (a v : Int) (hl : Heap.liveAt h a = true) (hv : Heap.vB v = true) : Good h (storeC m a v) left := by
 have hc := g.cnt
 have hp := g.path
 have hs := g.seen
 refine ⟨g.right, ?_, ?_, by show (m.log ++ [_]).length + _ ≤ _; rw [List.length_append, List.length_singleton]; omega, g.regs, by show m.path.length + _ ≤ _; omega, by show m.seen.length + _ ≤ _; omega, g.cells⟩
 · show (m.log ++ [_]).all _ = true
  rw [List.all_append, g.live, List.all_cons, List.all_nil, hl]; rfl
 · show (m.log ++ [_]).all _ = true
  rw [List.all_append, g.vals, List.all_cons, List.all_nil, hv]; rfl
theorem Good.path_ (g : Good h m (left + 1)) (p : Int) : Good h (pathC m p) left := by
 have hc := g.cnt
 have hp := g.path
 have hs := g.seen
 exact ⟨g.right, g.live, g.vals, by show m.log.length + _ ≤ _; omega, g.regs, by show (m.path ++ [p]).length + _ ≤ _; rw [List.length_append, List.length_singleton]; omega, by show m.seen.length + _ ≤ _; omega, g.cells⟩
theorem Good.why_ (g : Good h m left) (v : Int) : Good h (whyC m v) left := ⟨g.right, g.live, g.vals, g.cnt, g.regs, g.path, g.seen, g.cells⟩
end
/-- Where a part ends as Again, there is no why. -/
theorem part_again (f : Nat) : ∀ (c : List Step) (s : St), (partF f c s).kind = 2 → (partF f c s).why = 0 := by
 induction f with
 | zero => intro c s h; exact absurd h (by show ¬ (1 : Int) = 2; decide)
 | succ f ih =>
  intro c s
  cases c with
  | nil => intro h; exact absurd h (by show ¬ (1 : Int) = 2; decide)
  | cons x c =>
   simp only [partF]
   split
   · split
    · exact ih c _
    · intro h; exact absurd h (by show ¬ (4 : Int) = 2; decide)
   split
   · exact ih c _
   split
   · split
    · exact ih c _
    · intro h; exact absurd h (by show ¬ (4 : Int) = 2; decide)
   split
   · split
    · exact ih _ s
    · exact ih _ s
   split
   · intro _; rfl
   split
   · intro h; exact absurd h (by show ¬ (3 : Int) = 2; decide)
   · have h2 : ∀ r : St, r = (if (partF f (c.take x.a.toNat) (onPath s 1)).kind = 2 then partF f ((c.drop x.a.toNat).take x.b.toNat) (saw (onPath s 2) (partF f (c.take x.a.toNat) (onPath s 1)).seen) else partF f (c.take x.a.toNat) (onPath s 1)) → r.kind = 2 → r.why = 0 := by
     rintro r rfl
     split
     · exact ih _ _
     · exact ih _ _
    revert h2
    generalize (if (partF f (c.take x.a.toNat) (onPath s 1)).kind = 2 then partF f ((c.drop x.a.toNat).take x.b.toNat) (saw (onPath s 2) (partF f (c.take x.a.toNat) (onPath s 1)).seen) else partF f (c.take x.a.toNat) (onPath s 1)) = r
    intro h2
    split
    · exact ih _ _
    · exact h2 r rfl
end Go.Proofs.YtclbeboiojgejaaGreat.Model
