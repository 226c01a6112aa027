/-
  PLAIN LEMMAS ON A RUN THAT KEEPS A LOG: what such a run has so far, and what it stands for. No conditions beyond those that each theorem states. Nothing of the program is named here.
-/
import Derived.Test.YtadofonlkjkcmaaGreatCodeA
import Derived.Test.YtadofonlkjkcmaaGreatTermB
import Derived.Test.YtadofonlkjkcmaaGreatHeapA
import Derived.Test.YtadofonlkjkcmaaGreatWritesA
import Derived.Test.YtadofonlkjkcmaaGreatMemA
namespace Go.Proofs.YtadofonlkjkcmaaGreat.Model
open Go.ChangeShapes Go.WideShapes Go.ChangeAt Go.RowKit Mem Go.Proofs.YtadofonlkjkcmaaGreat.Code

/-- What a run has so far. -/
structure St where
  h : List Heap.Cell
  wrote : Nat → Bool
  regs : List Int
  path : List Int
  seen : Nat → Bool
  kind : Int
  why : Int
def upd (f : Nat → Bool) (k : Nat) : Nat → Bool := fun n => if n = k then true else f n
def ended (s : St) (k w : Int) : St := { s with kind := k, why := w }
def tellM (s : St) (t : List Term.Op) : Int := (Term.evalS t s.h s.regs).1
def loaded (s : St) (a b : Int) : St := { s with seen := if s.wrote b.toNat = true then s.seen else upd s.seen b.toNat, regs := s.regs.set a.toNat (Heap.valAt s.h b) }
def setTo (s : St) (a v : Int) : St := { s with regs := s.regs.set a.toNat v }
def stored (s : St) (a v : Int) : St := { s with h := Heap.setAt s.h a ⟨true, v⟩, wrote := upd s.wrote a.toNat }
def onPath (s : St) (p : Int) : St := { s with path := s.path ++ [p] }
def saw (s : St) (f : Nat → Bool) : St := { s with seen := f }
/-- A part of a code. -/
def partF : Nat → List Step → St → St
  | 0, _, s => ended s 1 0
  | _ + 1, [], s => ended s 1 0
  | f + 1, x :: c, s =>
    if x.d = 1 then (if Heap.liveAt s.h x.b = true then partF f c (loaded s x.a x.b) else ended s 4 x.b)
    else if x.d = 2 then partF f c (setTo s x.a (tellM s x.t))
    else if x.d = 3 then (if Heap.liveAt s.h x.a = true then partF f c (stored s x.a (tellM s x.t)) else ended s 4 x.a)
    else if x.d = 4 then (if tellM s x.t = 0 then partF f (c.drop x.a.toNat) s else partF f c s)
    else if x.d = 5 then ended s 2 0
    else if x.d = 6 then ended s 3 x.a
    else
      let a := partF f (c.take x.a.toNat) (onPath s 1)
      let r := if a.kind = 2 then partF f ((c.drop x.a.toNat).take x.b.toNat) (saw (onPath s 2) a.seen) else a
      if r.kind = 1 then partF f (c.drop (x.a.toNat + x.b.toNat)) r else r
def part (c : List Step) (s : St) : St := partF c.length c s
theorem part_same (f : Nat) : ∀ (g : Nat) (c : List Step) (s : St), c.length ≤ f → c.length ≤ g → partF f c s = partF g c s := by
  induction f with
  | zero =>
    intro g c s h1 _
    obtain rfl : c = [] := List.eq_nil_of_length_eq_zero (by omega)
    cases g <;> rfl
  | succ f ih =>
    intro g c s h1 h2
    cases c with
    | nil => cases g <;> rfl
    | cons x c =>
      cases g with
      | zero => simp at h2
      | succ g =>
        simp only [List.length_cons] at h1 h2
        have e : ∀ (y : List Step) (t : St), y.length ≤ c.length → partF f y t = partF g y t := fun y t hy => ih g y t (by omega) (by omega)
        simp only [partF]
        rw [e c _ (Nat.le_refl _), e c _ (Nat.le_refl _), e c _ (Nat.le_refl _), e c _ (Nat.le_refl _), e (c.drop x.a.toNat) _ (by simp), e (c.take x.a.toNat) _ (by simp; omega),
          e ((c.drop x.a.toNat).take x.b.toNat) _ (by simp; omega), e (c.drop (x.a.toNat + x.b.toNat)) _ (by simp)]
section
variable (x : Step) (c : List Step) (s : St)
theorem part_nil : part [] s = ended s 1 0 := rfl
theorem part_load (h : x.d = 1) : part (x :: c) s = if Heap.liveAt s.h x.b = true then part c (loaded s x.a x.b) else ended s 4 x.b := by
  unfold part; simp only [List.length_cons, partF]; rw [if_pos h]
theorem part_set (h : x.d = 2) : part (x :: c) s = part c (setTo s x.a (tellM s x.t)) := by
  unfold part; simp only [List.length_cons, partF]; rw [if_neg (by omega), if_pos h]
theorem part_store (h : x.d = 3) : part (x :: c) s = if Heap.liveAt s.h x.a = true then part c (stored s x.a (tellM s x.t)) else ended s 4 x.a := by
  unfold part; simp only [List.length_cons, partF]; rw [if_neg (by omega), if_neg (by omega), if_pos h]
theorem part_skip (h : x.d = 4) : part (x :: c) s = if tellM s x.t = 0 then part (c.drop x.a.toNat) s else part c s := by
  unfold part; simp only [List.length_cons, partF]; rw [if_neg (by omega), if_neg (by omega), if_neg (by omega), if_pos h]
  rw [part_same c.length (c.drop x.a.toNat).length _ _ (by simp) (Nat.le_refl _)]
theorem part_retry (h : x.d = 5) : part (x :: c) s = ended s 2 0 := by
  unfold part; simp only [List.length_cons, partF]; rw [if_neg (by omega), if_neg (by omega), if_neg (by omega), if_neg (by omega), if_pos h]
theorem part_fail (h : x.d = 6) : part (x :: c) s = ended s 3 x.a := by
  unfold part; simp only [List.length_cons, partF]; rw [if_neg (by omega), if_neg (by omega), if_neg (by omega), if_neg (by omega), if_neg (by omega), if_pos h]
/-- An Either's parts. -/
def eitherS (U V : List Step) (s : St) : St := if (part U (onPath s 1)).kind = 2 then part V (saw (onPath s 2) (part U (onPath s 1)).seen) else part U (onPath s 1)
theorem part_either (U V R : List Step) (h : x.d = 7) (ha : x.a = (U.length : Int)) (hb : x.b = (V.length : Int)) :
    part (x :: (U ++ (V ++ R))) s = if (eitherS U V s).kind = 1 then part R (eitherS U V s) else eitherS U V s := by
  have e1 : (U ++ (V ++ R)).drop (x.a.toNat + x.b.toNat) = R := by
    rw [ha, hb, Int.toNat_natCast, Int.toNat_natCast, ← List.append_assoc, ← List.length_append, List.drop_left]
  have e2 : (U ++ (V ++ R)).take x.a.toNat = U := by rw [ha, Int.toNat_natCast, List.take_left]
  have e3 : ((U ++ (V ++ R)).drop x.a.toNat).take x.b.toNat = V := by rw [ha, hb, Int.toNat_natCast, Int.toNat_natCast, List.drop_left, List.take_left]
  have hl : (U ++ (V ++ R)).length = U.length + V.length + R.length := by simp; omega
  unfold eitherS
  unfold part
  simp only [List.length_cons, partF]
  rw [if_neg (by omega), if_neg (by omega), if_neg (by omega), if_neg (by omega), if_neg (by omega), if_neg (by omega), e1, e2, e3]
  simp only [part_same _ R.length R _ (show R.length ≤ (U ++ (V ++ R)).length by omega) (Nat.le_refl _), part_same _ U.length U _ (show U.length ≤ (U ++ (V ++ R)).length by omega) (Nat.le_refl _),
    part_same _ V.length V _ (show V.length ≤ (U ++ (V ++ R)).length by omega) (Nat.le_refl _)]
end
/-- The first state. -/
def s0 (h : List Heap.Cell) : St := ⟨h, fun _ => false, List.replicate 8 0, [], fun _ => false, 0, 0⟩
structure Out where
  kind : Int
  why : Int
  regs : List Int
  path : List Int
  seen : List Int
  writes : List Heap.Write
  deriving DecidableEq
def writesS (s : St) : List Heap.Write := (pick s.wrote s.h.length).map fun i => ⟨i, Heap.valAt s.h i⟩
def outS (s : St) : Out := if s.kind = 1 then ⟨s.kind, s.why, s.regs, s.path, pick s.seen 64, writesS s⟩ else ⟨s.kind, s.why, [], [], pick s.seen 64, []⟩
def okR (c : List Step) (h : List Heap.Cell) : Bool := decide (checkS c = 0) && Heap.rightB h
def runS (c : List Step) (h : List Heap.Cell) : Out × List Heap.Cell × Bool :=
  if okR c h = true then (outS (part c (s0 h)), if (part c (s0 h)).kind = 1 then (part c (s0 h)).h else h, true) else (⟨0, 0, [], [], [], []⟩, h, false)
end Go.Proofs.YtadofonlkjkcmaaGreat.Model

namespace Go.Proofs.YtadofonlkjkcmaaGreat.Model
open Go.ChangeShapes Go.WideShapes Go.ChangeAt Go.RowKit Mem Go.Proofs.YtadofonlkjkcmaaGreat.Code

theorem well_tail (x : Step) (c : List Step) (ho : (x :: c).all oneB = true) (h : (wellP (x :: c)).2 = true) : (wellP c).2 = true := by
  rw [List.all_cons, Bool.and_eq_true] at ho
  by_cases h7 : x.d = 7
  · have h1 := one_either x ho.1 h7
    by_cases hlt : (c.length : Int) < x.a + x.b
    · rw [well_out x c h7 hlt] at h; cases h
    · obtain ⟨U, V, R, rfl, ha, hb⟩ := either_parts c x.a x.b (by omega) (by omega) (by omega)
      rw [well_either x U V R h7 ha hb, Bool.and_eq_true, Bool.and_eq_true] at h
      obtain ⟨⟨hu, hv⟩, hr⟩ := h
      have h2 := ho.2
      rw [List.all_append, List.all_append, Bool.and_eq_true, Bool.and_eq_true] at h2
      obtain ⟨ou, ov, or⟩ := h2
      have e1 := behind_well V.length V R (Nat.le_refl _) ov hv hr
      rw [behind_well U.length U (V ++ R) (Nat.le_refl _) ou hu (by rw [e1])]
  · by_cases h4 : x.d = 4 ∧ (c.length : Int) < x.a
    · rw [well_skip x c h4.1 h4.2] at h; cases h
    · rwa [well_plain x c h7 h4] at h
theorem well_drop (k : Nat) : ∀ c : List Step, c.all oneB = true → (wellP c).2 = true → (wellP (c.drop k)).2 = true := by
  induction k with
  | zero => intro c _ h; exact h
  | succ k ih =>
    intro c ho h
    cases c with
    | nil => exact h
    | cons x c =>
      have h2 := well_tail x c ho h
      rw [List.all_cons, Bool.and_eq_true] at ho
      exact ih c ho.2 h2
theorem all_drop {c : List Step} (k : Nat) (h : c.all oneB = true) : (c.drop k).all oneB = true :=
  List.all_eq_true.2 fun x hx => List.all_eq_true.1 h x (List.mem_of_mem_drop hx)
theorem code_ind {P : List Step → Prop} (hn : P []) (hp : ∀ x c, oneB x = true → x.d ≠ 4 → x.d ≠ 7 → P c → P (x :: c))
    (hs : ∀ x c, oneB x = true → x.d = 4 → x.a ≤ (c.length : Int) → P c → P (c.drop x.a.toNat) → P (x :: c))
    (he : ∀ x U V R, oneB x = true → x.d = 7 → x.a = (U.length : Int) → x.b = (V.length : Int) → P U → P V → P R → P (x :: (U ++ (V ++ R)))) :
    ∀ (f : Nat) (c : List Step), c.length ≤ f → c.all oneB = true → (wellP c).2 = true → P c := by
  intro f
  induction f with
  | zero =>
    intro c h1 _ _
    obtain rfl : c = [] := List.eq_nil_of_length_eq_zero (by omega)
    exact hn
  | succ f ih =>
    intro c h1 ho hw
    cases c with
    | nil => exact hn
    | cons x c =>
      have ht := well_tail x c ho hw
      rw [List.all_cons, Bool.and_eq_true] at ho
      rw [List.length_cons] at h1
      by_cases h7 : x.d = 7
      · have h1e := one_either x ho.1 h7
        by_cases hlt : (c.length : Int) < x.a + x.b
        · rw [well_out x c h7 hlt] at hw; cases hw
        · obtain ⟨U, V, R, rfl, ha, hb⟩ := either_parts c x.a x.b (by omega) (by omega) (by omega)
          rw [well_either x U V R h7 ha hb, Bool.and_eq_true, Bool.and_eq_true] at hw
          obtain ⟨⟨hu, hv⟩, hr⟩ := hw
          have h2 := ho.2
          rw [List.all_append, List.all_append, Bool.and_eq_true, Bool.and_eq_true] at h2
          obtain ⟨ou, ov, or⟩ := h2
          simp only [List.length_append] at h1
          exact he x U V R ho.1 h7 ha hb (ih U (by omega) ou hu) (ih V (by omega) ov hv) (ih R (by omega) or hr)
      · by_cases h4 : x.d = 4
        · by_cases hlt : (c.length : Int) < x.a
          · rw [well_skip x c h4 hlt] at hw; cases hw
          · exact hs x c ho.1 h4 (by omega) (ih c (by omega) ho.2 ht) (ih _ (by rw [List.length_drop]; omega) (all_drop _ ho.2) (well_drop _ c ho.2 ht))
        · exact hp x c ho.1 h4 h7 (ih c (by omega) ho.2 ht)
/-- How a part ended so far is of no weight. -/
theorem part_ended (f : Nat) : ∀ (c : List Step) (s : St) (k w : Int), partF f c (ended s k w) = partF f c s := by
  induction f with
  | zero => intro c s k w; rfl
  | succ f ih =>
    intro c s k w
    cases c with
    | nil => rfl
    | cons x c =>
      have e1 : ∀ a b, loaded (ended s k w) a b = ended (loaded s a b) k w := fun _ _ => rfl
      have e2 : ∀ a v, setTo (ended s k w) a v = ended (setTo s a v) k w := fun _ _ => rfl
      have e3 : ∀ a v, stored (ended s k w) a v = ended (stored s a v) k w := fun _ _ => rfl
      have e4 : ∀ p, onPath (ended s k w) p = ended (onPath s p) k w := fun _ => rfl
      have e5 : ∀ (t : St) g, saw (ended t k w) g = ended (saw t g) k w := fun _ _ => rfl
      have e6 : ∀ t, tellM (ended s k w) t = tellM s t := fun _ => rfl
      have e7 : (ended s k w).h = s.h := rfl
      have e8 : ∀ k2 w2, ended (ended s k w) k2 w2 = ended s k2 w2 := fun _ _ => rfl
      simp only [partF, e1, e2, e3, e4, e5, e6, e7, e8, ih]
theorem part_end (c : List Step) (s : St) (k w : Int) : part c (ended s k w) = part c s := part_ended _ c s k w
theorem ended_ne (s : St) (k w : Int) (h : k ≠ 1) : ¬ (ended s k w).kind = 1 := h
theorem plain_d (x : Step) (ho : oneB x = true) (h4 : x.d ≠ 4) (h7 : x.d ≠ 7) : x.d = 1 ∨ x.d = 2 ∨ x.d = 3 ∨ x.d = 5 ∨ x.d = 6 := by
  have := one_d x ho; omega
/-- Two codes, one behind the other. -/
theorem part_behind (a : List Step) (ho : a.all oneB = true) (hw : (wellP a).2 = true) : ∀ (r : List Step) (s : St), part (a ++ r) s = if (part a s).kind = 1 then part r (part a s) else part a s := by
  refine code_ind (P := fun a => ∀ (r : List Step) (s : St), part (a ++ r) s = if (part a s).kind = 1 then part r (part a s) else part a s) ?_ ?_ ?_ ?_ a.length a (Nat.le_refl _) ho hw
  · intro r s
    rw [List.nil_append, part_nil, if_pos (show (ended s 1 0).kind = 1 from rfl), part_end]
  · intro x c hx h4 h7 ih r s
    rw [List.cons_append]
    rcases plain_d x hx h4 h7 with h | h | h | h | h
    · rw [part_load x _ s h, part_load x _ s h]
      split
      · exact ih r _
      · rw [if_neg (ended_ne s 4 x.b (by decide))]
    · rw [part_set x _ s h, part_set x _ s h]; exact ih r _
    · rw [part_store x _ s h, part_store x _ s h]
      split
      · exact ih r _
      · rw [if_neg (ended_ne s 4 x.a (by decide))]
    · rw [part_retry x _ s h, part_retry x _ s h, if_neg (ended_ne s 2 0 (by decide))]
    · rw [part_fail x _ s h, part_fail x _ s h, if_neg (ended_ne s 3 x.a (by decide))]
  · intro x c hx h hl ih ih2 r s
    have h1 := one_skip x hx h
    rw [List.cons_append, part_skip x _ s h, part_skip x _ s h]
    split
    · rw [List.drop_append_of_le_length (by omega)]; exact ih2 r s
    · exact ih r s
  · intro x U V R hx h ha hb iu iv ir r s
    have e : x :: (U ++ (V ++ R)) ++ r = x :: (U ++ (V ++ (R ++ r))) := by simp
    rw [e, part_either x s U V (R ++ r) h ha hb, part_either x s U V R h ha hb]
    by_cases hk : (eitherS U V s).kind = 1
    · rw [if_pos hk, if_pos hk]; exact ir r _
    · rw [if_neg hk, if_neg hk, if_neg hk]
/-- What a part leaves as it was. -/
structure Keeps (s r : St) : Prop where
  right : Heap.rightB s.h = true → Heap.rightB r.h = true
  len : r.h.length = s.h.length
  live : ∀ i, Heap.liveAt r.h i = Heap.liveAt s.h i
  regs : r.regs.length = s.regs.length
  seen : ∀ n, s.seen n = true → r.seen n = true
  wrote : ∀ n, s.wrote n = true → r.wrote n = true
  same : ∀ n : Nat, r.wrote n = false → r.h[n]? = s.h[n]?
  wlive : ∀ n : Nat, r.wrote n = true → s.wrote n = true ∨ Heap.liveAt s.h (n : Int) = true
theorem Keeps.refl (s : St) : Keeps s s := ⟨id, rfl, fun _ => rfl, rfl, fun _ h => h, fun _ h => h, fun _ _ => rfl, fun _ h => .inl h⟩
theorem Keeps.trans {s t r : St} (h : Keeps s t) (k : Keeps t r) : Keeps s r :=
  ⟨fun e => k.right (h.right e), k.len.trans h.len, fun i => (k.live i).trans (h.live i), k.regs.trans h.regs, fun n e => k.seen n (h.seen n e), fun n e => k.wrote n (h.wrote n e),
   fun n e => (k.same n e).trans (h.same n (by
     cases ht : t.wrote n with
     | false => rfl
     | true => rw [k.wrote n ht] at e; cases e)),
   fun n e => by
     rcases k.wlive n e with e1 | e1
     · exact h.wlive n e1
     · exact .inr (by rw [← h.live]; exact e1)⟩
theorem keeps_ended (s : St) (k w : Int) : Keeps s (ended s k w) := ⟨id, rfl, fun _ => rfl, rfl, fun _ h => h, fun _ h => h, fun _ _ => rfl, fun _ h => .inl h⟩
theorem keeps_loaded (s : St) (a b : Int) : Keeps s (loaded s a b) :=
  ⟨id, rfl, fun _ => rfl, by show (s.regs.set _ _).length = _; simp, fun n h => by
    show (if s.wrote b.toNat = true then s.seen else upd s.seen b.toNat) n = true
    split
    · exact h
    · unfold upd; split
      · rfl
      · exact h, fun _ h => h, fun _ _ => rfl, fun _ h => .inl h⟩
theorem keeps_set (s : St) (a v : Int) : Keeps s (setTo s a v) :=
  ⟨id, rfl, fun _ => rfl, by show (s.regs.set _ _).length = _; simp, fun _ h => h, fun _ h => h, fun _ _ => rfl, fun _ h => .inl h⟩
theorem keeps_path (s : St) (p : Int) : Keeps s (onPath s p) := ⟨id, rfl, fun _ => rfl, rfl, fun _ h => h, fun _ h => h, fun _ _ => rfl, fun _ h => .inl h⟩
theorem tell_v (s : St) (t : List Term.Op) : Heap.vB (tellM s t) = true := by
  unfold tellM
  by_cases hc : Term.checkS t = 0
  · by_cases hr : Heap.rightB s.h = true
    · obtain ⟨_, _, h3, h4⟩ := Term.check_ok t hc
      obtain ⟨T, hk, rfl⟩ := Term.well_tree t h4
      rw [Term.eval_tree T hk hc s.h s.regs hr]
      split
      · exact Term.val_v s.h s.regs hr T hk h3
      · decide
    · unfold Term.evalS; rw [if_pos hc, if_neg hr]; decide
  · unfold Term.evalS; rw [if_neg hc]; show Heap.vB 0 = true; decide
theorem keeps_stored (s : St) (a v : Int) (hl : Heap.liveAt s.h a = true) (hv : Heap.vB v = true) : Keeps s (stored s a v) := by
  have hcell : Heap.cellB ⟨true, v⟩ = true := by unfold Heap.cellB; rw [hv]; rfl
  obtain ⟨h0, h1, x, hx, hxl⟩ := Heap.live_in s.h a hl
  refine ⟨fun h => Heap.set_right s.h a _ h hcell, Heap.setAt_len _ _ _, fun i => Heap.set_live s.h a v hl i, rfl, fun _ h => h, fun n h => ?_, fun n h => ?_, fun n h => ?_⟩
  · show upd s.wrote a.toNat n = true
    unfold upd; split
    · rfl
    · exact h
  · have h2 : upd s.wrote a.toNat n = false := h
    unfold upd at h2
    split at h2
    · cases h2
    · rename_i hne
      show (Heap.setAt s.h a ⟨true, v⟩)[n]? = _
      unfold Heap.setAt
      rw [if_neg (by omega), List.getElem?_set_ne (by omega)]
  · have h2 : upd s.wrote a.toNat n = true := h
    unfold upd at h2
    split at h2
    · rename_i he
      refine .inr ?_
      have : (n : Int) = a := by omega
      rw [this]; exact hl
    · exact .inl h2
theorem keeps_saw (s t : St) (h : Keeps s t) : Keeps s (saw (onPath s 2) t.seen) := ⟨id, rfl, fun _ => rfl, rfl, h.seen, fun _ h => h, fun _ _ => rfl, fun _ h => .inl h⟩
theorem part_keeps (f : Nat) : ∀ (c : List Step) (s : St), Keeps s (partF f c s) := by
  induction f with
  | zero => intro c s; exact keeps_ended s 1 0
  | succ f ih =>
    intro c s
    cases c with
    | nil => exact keeps_ended s 1 0
    | cons x c =>
      simp only [partF]
      split
      · split
        · exact (keeps_loaded s _ _).trans (ih c _)
        · exact keeps_ended s _ _
      split
      · exact (keeps_set s _ _).trans (ih c _)
      split
      · split
        · rename_i hl
          exact (keeps_stored s _ _ hl (tell_v s _)).trans (ih c _)
        · exact keeps_ended s _ _
      split
      · split
        · exact ih _ s
        · exact ih _ s
      split
      · exact keeps_ended s _ _
      split
      · exact keeps_ended s _ _
      · have h1 : Keeps s (partF f (c.take x.a.toNat) (onPath s 1)) := (keeps_path s 1).trans (ih _ _)
        have h2 : Keeps s (if (partF f (c.take x.a.toNat) (onPath s 1)).kind = 2 then partF f ((c.drop x.a.toNat).take x.b.toNat) (saw (onPath s 2) (partF f (c.take x.a.toNat) (onPath s 1)).seen) else partF f (c.take x.a.toNat) (onPath s 1)) := by
          split
          · exact (keeps_saw s _ h1).trans (ih _ _)
          · exact h1
        revert h2
        generalize (if (partF f (c.take x.a.toNat) (onPath s 1)).kind = 2 then partF f ((c.drop x.a.toNat).take x.b.toNat) (saw (onPath s 2) (partF f (c.take x.a.toNat) (onPath s 1)).seen) else partF f (c.take x.a.toNat) (onPath s 1)) = r
        intro h2
        split
        · exact h2.trans (ih _ _)
        · exact h2
theorem keeps (c : List Step) (s : St) : Keeps s (part c s) := part_keeps _ c s
end Go.Proofs.YtadofonlkjkcmaaGreat.Model

namespace Go.Proofs.YtadofonlkjkcmaaGreat.Model
open Go.ChangeShapes Go.WideShapes Go.ChangeAt Go.RowKit Mem Go.Proofs.YtadofonlkjkcmaaGreat.Code

theorem reck_kind (t : List Term.Op) (h : reckonsB t = true) : Term.checkS t = 0 ∧ ∀ o ∈ t, o.kind ≠ 2 := by
  unfold reckonsB at h
  rw [Bool.and_eq_true, decide_eq_true_eq, decide_eq_true_eq] at h
  obtain ⟨h0, h1⟩ := h
  refine ⟨h0, fun o ho e => ?_⟩
  obtain ⟨_, _, g3, _⟩ := Term.check_ok t h0
  have hone := List.all_eq_true.1 g3 o ho
  unfold Term.oneB at hone
  rw [if_neg (by omega), if_pos e, decide_eq_true_eq] at hone
  have hmem : o.n ∈ Term.cellsS t := by
    unfold Term.cellsS
    rw [if_pos h0]
    refine (pick_mem _ 64 o.n).2 ⟨o.n.toNat, by omega, ?_, by omega⟩
    rw [List.any_eq_true]
    exact ⟨o, ho, by rw [Bool.and_eq_true, decide_eq_true_eq, decide_eq_true_eq]; exact ⟨e, by omega⟩⟩
  have := List.length_pos_of_mem hmem
  omega
/-- A term of registers alone does not hang on the heap. -/
theorem tell_free (t : List Term.Op) (hk : reckonsB t = true) (h g : List Heap.Cell) (rg : List Int) (h1 : Heap.rightB h = true) (h2 : Heap.rightB g = true) : Term.evalS t h rg = Term.evalS t g rg := by
  obtain ⟨h0, hn⟩ := reck_kind t hk
  unfold Term.evalS
  rw [if_pos h0, if_pos h0, if_pos h1, if_pos h2, Term.run_congr h g rg rg t (fun o ho xs => by
    unfold Term.tellS
    rw [if_neg (hn o ho), if_neg (hn o ho)]) []]
theorem one_reck (x : Step) (ho : oneB x = true) (hd : x.d = 2 ∨ x.d = 3 ∨ x.d = 4) : reckonsB x.t = true := by
  unfold oneB at ho
  rcases hd with h | h | h
  · rw [if_neg (by omega), if_pos h, Bool.and_eq_true] at ho; exact ho.1
  · rw [if_neg (by omega), if_neg (by omega), if_pos h, Bool.and_eq_true] at ho; exact ho.1
  · rw [if_neg (by omega), if_neg (by omega), if_neg (by omega), if_pos h, Bool.and_eq_true] at ho; exact ho.1
/-- Runs of one heap and one row of registers, behind unlike paths; and, if b, of one set of what was written. -/
structure Like (p p' : List Int) (d d' : Nat → Bool) (b : Bool) (s t : St) : Prop where
  h : s.h = t.h
  regs : s.regs = t.regs
  path : ∃ q, s.path = p ++ q ∧ t.path = p' ++ q
  more : b = true → s.wrote = t.wrote ∧ ∃ D : Nat → Bool, ∀ n, s.seen n = (d n || D n) ∧ t.seen n = (d' n || D n)
section
variable {p p' : List Int} {d d' : Nat → Bool} {b : Bool} {s t : St}
theorem Like.tell (h : Like p p' d d' b s t) (x : List Term.Op) : tellM s x = tellM t x := by unfold tellM; rw [h.h, h.regs]
theorem Like.ended_ (h : Like p p' d d' b s t) (k w : Int) : Like p p' d d' b (ended s k w) (ended t k w) := ⟨h.h, h.regs, h.path, h.more⟩
theorem Like.loaded_ (h : Like p p' d d' b s t) (a c : Int) : Like p p' d d' b (loaded s a c) (loaded t a c) := by
  refine ⟨h.h, by show s.regs.set _ _ = t.regs.set _ _; rw [h.regs, h.h], h.path, fun hb => ?_⟩
  obtain ⟨hw, D, hD⟩ := h.more hb
  refine ⟨hw, fun n => D n || (!s.wrote c.toNat && decide (n = c.toNat)), fun n => ?_⟩
  show (if s.wrote c.toNat = true then s.seen else upd s.seen c.toNat) n = _ ∧ (if t.wrote c.toNat = true then t.seen else upd t.seen c.toNat) n = _
  rw [← hw]
  cases hwc : s.wrote c.toNat with
  | true => simpa using hD n
  | false =>
    simp only [Bool.false_eq_true, if_false, Bool.not_false, Bool.true_and]
    unfold upd
    by_cases hn : n = c.toNat
    · simp [hn]
    · simpa [hn] using hD n
theorem Like.set_ (h : Like p p' d d' b s t) (a v : Int) : Like p p' d d' b (setTo s a v) (setTo t a v) :=
  ⟨h.h, by show s.regs.set _ _ = t.regs.set _ _; rw [h.regs], h.path, h.more⟩
theorem Like.stored_ (h : Like p p' d d' b s t) (a v : Int) : Like p p' d d' b (stored s a v) (stored t a v) :=
  ⟨by show Heap.setAt _ _ _ = Heap.setAt _ _ _; rw [h.h], h.regs, h.path, fun hb => by
    obtain ⟨hw, hD⟩ := h.more hb
    exact ⟨by show upd _ _ = upd _ _; rw [hw], hD⟩⟩
theorem Like.path_ (h : Like p p' d d' b s t) (x : Int) : Like p p' d d' b (onPath s x) (onPath t x) := by
  obtain ⟨q, h1, h2⟩ := h.path
  exact ⟨h.h, h.regs, ⟨q ++ [x], by show s.path ++ [x] = _; rw [h1, List.append_assoc], by show t.path ++ [x] = _; rw [h2, List.append_assoc]⟩, h.more⟩
theorem Like.saw_ {a a' : St} (h : Like p p' d d' b s t) (k : Like p p' d d' b a a') : Like p p' d d' b (saw (onPath s 2) a.seen) (saw (onPath t 2) a'.seen) := by
  have h2 := h.path_ 2
  refine ⟨h2.h, h2.regs, h2.path, fun hb => ⟨(h.more hb).1, (k.more hb).2⟩⟩
theorem part_like (f : Nat) : ∀ (c : List Step) (s t : St), Like p p' d d' b s t → Like p p' d d' b (partF f c s) (partF f c t) ∧ (partF f c s).kind = (partF f c t).kind ∧ (partF f c s).why = (partF f c t).why := by
  induction f with
  | zero => intro c s t h; exact ⟨h.ended_ 1 0, rfl, rfl⟩
  | succ f ih =>
    intro c s t h
    cases c with
    | nil => exact ⟨h.ended_ 1 0, rfl, rfl⟩
    | cons x c =>
      simp only [partF]
      rw [← h.h, ← h.tell x.t]
      split
      · split
        · exact ih c _ _ (h.loaded_ _ _)
        · exact ⟨h.ended_ _ _, rfl, rfl⟩
      split
      · exact ih c _ _ (h.set_ _ _)
      split
      · split
        · exact ih c _ _ (h.stored_ _ _)
        · exact ⟨h.ended_ _ _, rfl, rfl⟩
      split
      · split
        · exact ih _ _ _ h
        · exact ih _ _ _ h
      split
      · exact ⟨h.ended_ _ _, rfl, rfl⟩
      split
      · exact ⟨h.ended_ _ _, rfl, rfl⟩
      · obtain ⟨l1, k1, w1⟩ := ih (c.take x.a.toNat) _ _ (h.path_ 1)
        generalize partF f (c.take x.a.toNat) (onPath s 1) = a at *
        generalize partF f (c.take x.a.toNat) (onPath t 1) = a' at *
        have h2 : ∀ r r' : St, r = (if a.kind = 2 then partF f ((c.drop x.a.toNat).take x.b.toNat) (saw (onPath s 2) a.seen) else a) → r' = (if a'.kind = 2 then partF f ((c.drop x.a.toNat).take x.b.toNat) (saw (onPath t 2) a'.seen) else a') →
            Like p p' d d' b r r' ∧ r.kind = r'.kind ∧ r.why = r'.why := by
          rintro r r' rfl rfl
          rw [← k1]
          split
          · exact ih _ _ _ (h.saw_ l1)
          · exact ⟨l1, k1, w1⟩
        obtain ⟨l2, k2, w2⟩ := h2 _ _ rfl rfl
        revert l2 k2 w2
        generalize (if a.kind = 2 then partF f ((c.drop x.a.toNat).take x.b.toNat) (saw (onPath s 2) a.seen) else a) = r
        generalize (if a'.kind = 2 then partF f ((c.drop x.a.toNat).take x.b.toNat) (saw (onPath t 2) a'.seen) else a') = r'
        intro l2 k2 w2
        rw [← k2]
        split
        · exact ih _ _ _ l2
        · exact ⟨l2, k2, w2⟩
theorem like (c : List Step) (h : Like p p' d d' b s t) : Like p p' d d' b (part c s) (part c t) ∧ (part c s).kind = (part c t).kind ∧ (part c s).why = (part c t).why := part_like _ c s t h
end
end Go.Proofs.YtadofonlkjkcmaaGreat.Model

namespace Go.Proofs.YtadofonlkjkcmaaGreat.Model
open Go.ChangeShapes Go.WideShapes Go.ChangeAt Go.RowKit Mem Go.Proofs.YtadofonlkjkcmaaGreat.Code

/-! What a run hangs on. -/
/-- Runs on heaps that agree in what is written, and in some cells beside. -/
structure Sim (F : Nat → Bool) (s t : St) : Prop where
  rs : Heap.rightB s.h = true
  rt : Heap.rightB t.h = true
  len : s.h.length = t.h.length
  live : ∀ i, Heap.liveAt s.h i = Heap.liveAt t.h i
  val : ∀ n : Nat, (s.wrote n = true ∨ F n = true) → s.h[n]? = t.h[n]?
  wrote : s.wrote = t.wrote
  regs : s.regs = t.regs
  path : s.path = t.path
  seen : s.seen = t.seen
section
variable {F : Nat → Bool} {s t : St}
theorem Sim.ended_ (h : Sim F s t) (k w : Int) : Sim F (ended s k w) (ended t k w) := ⟨h.rs, h.rt, h.len, h.live, h.val, h.wrote, h.regs, h.path, h.seen⟩
theorem Sim.path_ (h : Sim F s t) (x : Int) : Sim F (onPath s x) (onPath t x) :=
  ⟨h.rs, h.rt, h.len, h.live, h.val, h.wrote, h.regs, by show s.path ++ [x] = t.path ++ [x]; rw [h.path], h.seen⟩
theorem Sim.saw_ {a a' : St} (h : Sim F s t) (k : Sim F a a') : Sim F (saw (onPath s 2) a.seen) (saw (onPath t 2) a'.seen) :=
  ⟨h.rs, h.rt, h.len, h.live, h.val, h.wrote, h.regs, by show s.path ++ [2] = t.path ++ [2]; rw [h.path], k.seen⟩
theorem Sim.tell (h : Sim F s t) (x : Step) (ho : oneB x = true) (hd : x.d = 2 ∨ x.d = 3 ∨ x.d = 4) : tellM s x.t = tellM t x.t := by
  unfold tellM; rw [h.regs, tell_free x.t (one_reck x ho hd) s.h t.h t.regs h.rs h.rt]
theorem Sim.set_ (h : Sim F s t) (a v : Int) : Sim F (setTo s a v) (setTo t a v) :=
  ⟨h.rs, h.rt, h.len, h.live, h.val, h.wrote, by show s.regs.set _ _ = t.regs.set _ _; rw [h.regs], h.path, h.seen⟩
theorem Sim.loaded_ (h : Sim F s t) (a b : Int) (hv : s.wrote b.toNat = true ∨ F b.toNat = true) : Sim F (loaded s a b) (loaded t a b) := by
  refine ⟨h.rs, h.rt, h.len, h.live, h.val, h.wrote, ?_, h.path, ?_⟩
  · show s.regs.set _ _ = t.regs.set _ _
    have : Heap.valAt s.h b = Heap.valAt t.h b := by unfold Heap.valAt; rw [h.val _ hv]
    rw [h.regs, this]
  · show (if s.wrote b.toNat = true then s.seen else upd s.seen b.toNat) = (if t.wrote b.toNat = true then t.seen else upd t.seen b.toNat)
    rw [h.wrote, h.seen]
theorem Sim.stored_ (h : Sim F s t) (a v : Int) (hl : Heap.liveAt s.h a = true) (hv : Heap.vB v = true) : Sim F (stored s a v) (stored t a v) := by
  have hl2 := hl
  rw [h.live] at hl2
  have k1 := keeps_stored s a v hl hv
  have k2 := keeps_stored t a v hl2 hv
  obtain ⟨h0, h1, _⟩ := Heap.live_in s.h a hl
  refine ⟨k1.right h.rs, k2.right h.rt, by rw [k1.len, k2.len, h.len], fun i => by rw [k1.live, k2.live, h.live], fun n hn => ?_, by show upd _ _ = upd _ _; rw [h.wrote], h.regs, h.path, h.seen⟩
  show (Heap.setAt s.h a ⟨true, v⟩)[n]? = (Heap.setAt t.h a ⟨true, v⟩)[n]?
  unfold Heap.setAt
  rw [if_neg (by omega), if_neg (by omega)]
  by_cases hna : a.toNat = n
  · subst hna
    rw [List.getElem?_set_self h1, List.getElem?_set_self (by rw [← h.len]; exact h1)]
  · rw [List.getElem?_set_ne hna, List.getElem?_set_ne hna]
    refine h.val n ?_
    rcases hn with hn | hn
    · have hn2 : upd s.wrote a.toNat n = true := hn
      unfold upd at hn2
      rw [if_neg (fun e => hna e.symm)] at hn2
      exact .inl hn2
    · exact .inr hn
theorem part_sim (c : List Step) (ho : c.all oneB = true) (hw : (wellP c).2 = true) : ∀ (s t : St), Sim F s t → (∀ n, (part c s).seen n = true → F n = true) →
    Sim F (part c s) (part c t) ∧ (part c s).kind = (part c t).kind ∧ (part c s).why = (part c t).why := by
  refine code_ind (P := fun c => ∀ (s t : St), Sim F s t → (∀ n, (part c s).seen n = true → F n = true) → Sim F (part c s) (part c t) ∧ (part c s).kind = (part c t).kind ∧ (part c s).why = (part c t).why) ?_ ?_ ?_ ?_ c.length c (Nat.le_refl _) ho hw
  · intro s t h _
    exact ⟨h.ended_ 1 0, rfl, rfl⟩
  · intro x c hx h4 h7 ih s t h hF
    rcases plain_d x hx h4 h7 with hd | hd | hd | hd | hd
    · rw [part_load x _ s hd] at hF ⊢
      rw [part_load x _ t hd, ← h.live]
      by_cases hl : Heap.liveAt s.h x.b = true
      · rw [if_pos hl] at hF ⊢
        rw [if_pos hl]
        refine ih _ _ (h.loaded_ _ _ ?_) hF
        cases hwb : s.wrote x.b.toNat with
        | true => exact .inl rfl
        | false =>
          refine .inr (hF _ ((keeps c _).seen _ ?_))
          show (if s.wrote x.b.toNat = true then s.seen else upd s.seen x.b.toNat) x.b.toNat = true
          rw [hwb]
          unfold upd; simp
      · rw [if_neg hl, if_neg hl]; exact ⟨h.ended_ _ _, rfl, rfl⟩
    · rw [part_set x _ s hd] at hF ⊢
      rw [part_set x _ t hd, ← h.tell x hx (.inl hd)]
      exact ih _ _ (h.set_ _ _) hF
    · rw [part_store x _ s hd] at hF ⊢
      rw [part_store x _ t hd, ← h.live, ← h.tell x hx (.inr (.inl hd))]
      by_cases hl : Heap.liveAt s.h x.a = true
      · rw [if_pos hl] at hF ⊢
        rw [if_pos hl]
        exact ih _ _ (h.stored_ _ _ hl (tell_v s _)) hF
      · rw [if_neg hl, if_neg hl]; exact ⟨h.ended_ _ _, rfl, rfl⟩
    · rw [part_retry x _ s hd, part_retry x _ t hd]; exact ⟨h.ended_ _ _, rfl, rfl⟩
    · rw [part_fail x _ s hd, part_fail x _ t hd]; exact ⟨h.ended_ _ _, rfl, rfl⟩
  · intro x c hx hd hl ih ih2 s t h hF
    rw [part_skip x _ s hd] at hF ⊢
    rw [part_skip x _ t hd, ← h.tell x hx (.inr (.inr hd))]
    by_cases h0 : tellM s x.t = 0
    · rw [if_pos h0] at hF ⊢
      rw [if_pos h0]; exact ih2 _ _ h hF
    · rw [if_neg h0] at hF ⊢
      rw [if_neg h0]; exact ih _ _ h hF
  · intro x U V R hx hd ha hb iu iv ir s t h hF
    rw [part_either x s U V R hd ha hb] at hF ⊢
    rw [part_either x t U V R hd ha hb]
    have hsub : ∀ n, (part U (onPath s 1)).seen n = true → (eitherS U V s).seen n = true := by
      intro n hn
      unfold eitherS
      split
      · exact (keeps V _).seen n hn
      · exact hn
    have hsub2 : ∀ n, (eitherS U V s).seen n = true → F n = true := by
      intro n hn
      refine hF n ?_
      split
      · exact (keeps R _).seen n hn
      · exact hn
    obtain ⟨sa, ka, wa⟩ := iu _ _ (h.path_ 1) (fun n hn => hsub2 n (hsub n hn))
    have he : Sim F (eitherS U V s) (eitherS U V t) ∧ (eitherS U V s).kind = (eitherS U V t).kind ∧ (eitherS U V s).why = (eitherS U V t).why := by
      unfold eitherS at hsub2 ⊢
      rw [← ka]
      by_cases h2 : (part U (onPath s 1)).kind = 2
      · rw [if_pos h2] at hsub2 ⊢
        rw [if_pos h2]
        exact iv _ _ (h.saw_ sa) hsub2
      · rw [if_neg h2, if_neg h2]; exact ⟨sa, ka, wa⟩
    obtain ⟨se, ke, we⟩ := he
    rw [← ke]
    by_cases h1 : (eitherS U V s).kind = 1
    · rw [if_pos h1] at hF ⊢
      rw [if_pos h1]; exact ir _ _ se hF
    · rw [if_neg h1, if_neg h1]; exact ⟨se, ke, we⟩
end
theorem ok_parts {c : List Step} {h : List Heap.Cell} (hk : okR c h = true) : checkS c = 0 ∧ c.length ≤ 24 ∧ c.all oneB = true ∧ (wellP c).2 = true ∧ (wellP c).1 ≤ 6 ∧ Heap.rightB h = true := by
  unfold okR at hk
  rw [Bool.and_eq_true, decide_eq_true_eq] at hk
  obtain ⟨h1, h2, h3, h4⟩ := check_ok c hk.1
  exact ⟨hk.1, h1, h2, h3, h4, hk.2⟩
/-- A run hangs on what it saw alone. -/
theorem seen_same (c : List Step) (h g : List Heap.Cell) (hk : okR c h = true) (hg : Heap.rightB g = true) (hl : h.length = g.length) (hv : ∀ i, Heap.liveAt h i = Heap.liveAt g i)
    (hs : ∀ n : Nat, (part c (s0 h)).seen n = true → h[n]? = g[n]?) : outS (part c (s0 h)) = outS (part c (s0 g)) := by
  obtain ⟨_, _, h2, h3, _, h5⟩ := ok_parts hk
  have hsim : Sim (part c (s0 h)).seen (s0 h) (s0 g) := ⟨h5, hg, hl, hv, fun n hn => by
    rcases hn with hn | hn
    · cases hn
    · exact hs n hn, rfl, rfl, rfl, rfl⟩
  obtain ⟨k, k1, k2⟩ := part_sim c h2 h3 _ _ hsim (fun n hn => hn)
  have hw : writesS (part c (s0 h)) = writesS (part c (s0 g)) := by
    unfold writesS
    rw [← k.len, ← k.wrote]
    refine List.map_congr_left fun z hz => ?_
    obtain ⟨j, _, hj, rfl⟩ := (pick_mem _ _ z).1 hz
    have : Heap.valAt (part c (s0 h)).h (j : Int) = Heap.valAt (part c (s0 g)).h (j : Int) := by unfold Heap.valAt; rw [Int.toNat_natCast, k.val j (.inl hj)]
    rw [this]
  unfold outS
  rw [← k1, ← k2, ← k.regs, ← k.path, ← k.seen, ← hw]

/-! What is written. -/
theorem lastV_end (i : Nat) (l : List Heap.Write) (w : Heap.Write) (v : Int) : Heap.lastV i (l ++ [w]) v = if w.cell = (i : Int) then w.value else Heap.lastV i l v := by
  unfold Heap.lastV; rw [List.foldl_append]; rfl
theorem lastV_pick (i : Nat) (p : Nat → Bool) (V : Int → Int) (v : Int) (m : Nat) : Heap.lastV i ((pick p m).map fun z => ⟨z, V z⟩) v = if p i = true ∧ i < m then V (i : Int) else v := by
  induction m with
  | zero => rw [if_neg (by omega)]; rfl
  | succ m ih =>
    cases hp : p m with
    | true =>
      rw [pick_yes p m hp, List.map_append, List.map_cons, List.map_nil, lastV_end, ih]
      by_cases e : (m : Int) = (i : Int)
      · have e2 : m = i := by omega
        subst e2
        rw [if_pos rfl, if_pos ⟨hp, by omega⟩]
      · rw [if_neg e]
        by_cases e3 : p i = true ∧ i < m
        · rw [if_pos e3, if_pos ⟨e3.1, by omega⟩]
        · rw [if_neg e3, if_neg (fun h => e3 ⟨h.1, by omega⟩)]
    | false =>
      rw [pick_no p m hp, ih]
      by_cases e3 : p i = true ∧ i < m
      · rw [if_pos e3, if_pos ⟨e3.1, by omega⟩]
      · rw [if_neg e3, if_neg (fun h => e3 ⟨h.1, by
          have : i ≠ m := fun e => by rw [e, hp] at h; cases h.1
          omega⟩)]
theorem putAll_len (l : List Heap.Write) : ∀ h : List Heap.Cell, (Heap.putAll h l).length = h.length := by
  induction l with
  | nil => intro h; rfl
  | cons w l ih => intro h; show (Heap.putAll (Heap.setAt h w.cell ⟨true, w.value⟩) l).length = _; rw [ih, Heap.setAt_len]
/-- Of Done the heap is that with the writes. -/
theorem done_put (c : List Step) (h : List Heap.Cell) (hr : Heap.rightB h = true) : Heap.putS h (writesS (part c (s0 h))) = ((part c (s0 h)).h, 0) := by
  have K := keeps c (s0 h)
  generalize part c (s0 h) = r at *
  have hlen : r.h.length = h.length := K.len
  have hrr := K.right hr
  have hmem : ∀ w ∈ writesS r, ∃ k : Nat, k < r.h.length ∧ r.wrote k = true ∧ w = ⟨(k : Int), Heap.valAt r.h (k : Int)⟩ := by
    intro w hw
    obtain ⟨z, hz, rfl⟩ := List.mem_map.1 hw
    obtain ⟨k, h1, h2, rfl⟩ := (pick_mem _ _ z).1 hz
    exact ⟨k, h1, h2, rfl⟩
  have hv : (writesS r).all (fun w => Heap.vB w.value) = true := by
    refine List.all_eq_true.2 fun w hw => ?_
    obtain ⟨k, h1, _, rfl⟩ := hmem w hw
    have hx := List.getElem?_eq_getElem h1
    have hc := Heap.right_cell r.h hrr k _ hx
    show Heap.vB (Heap.valAt r.h (k : Int)) = true
    rw [Heap.val_at r.h k _ hx]
    unfold Heap.cellB at hc
    rw [Bool.and_eq_true] at hc
    exact hc.1
  have hl : (writesS r).all (fun w => Heap.liveAt h w.cell) = true := by
    refine List.all_eq_true.2 fun w hw => ?_
    obtain ⟨k, _, h2, rfl⟩ := hmem w hw
    rcases K.wlive k h2 with h3 | h3
    · cases h3
    · exact h3
  rcases Heap.put_cases h (writesS r) hr with ⟨_, _, e⟩ | ⟨_, _, _, hn⟩
  · rw [e]
    have : Heap.putAll h (writesS r) = r.h := by
      refine List.ext_getElem? fun i => ?_
      rcases Nat.lt_or_ge i h.length with hi | hi
      · have hx := List.getElem?_eq_getElem hi
        have hy := List.getElem?_eq_getElem (show i < r.h.length by omega)
        rw [Heap.putAll_at h (writesS r) hl i _ hx, hy]
        have h1 : Heap.liveAt r.h (i : Int) = Heap.liveAt h (i : Int) := K.live (i : Int)
        rw [Heap.live_at r.h i _ hy, Heap.live_at h i _ hx] at h1
        have h2 : Heap.lastV i (writesS r) (h[i]'hi).value = (r.h[i]'(by omega)).value := by
          unfold writesS
          rw [lastV_pick i r.wrote (fun z => Heap.valAt r.h z)]
          cases hw : r.wrote i with
          | true => rw [if_pos ⟨rfl, by omega⟩, Heap.val_at r.h i _ hy]
          | false =>
            rw [if_neg (by simp)]
            have h3 := K.same i hw
            rw [hy] at h3
            have h4 : (s0 h).h[i]? = some (h[i]'hi) := hx
            rw [h4] at h3
            injection h3 with h3
            rw [h3]
        rw [h2, ← h1]
      · rw [List.getElem?_eq_none (by rw [putAll_len]; exact hi), List.getElem?_eq_none (by omega)]
    rw [this]
  · exact absurd ⟨hv, hl⟩ hn
end Go.Proofs.YtadofonlkjkcmaaGreat.Model

namespace Go.Proofs.YtadofonlkjkcmaaGreat.Model
open Go.ChangeShapes Go.WideShapes Go.ChangeAt Go.RowKit Mem Go.Proofs.YtadofonlkjkcmaaGreat.Code

/-- Where there is no Fail, and no Bad, there is no why. -/
theorem part_why (f : Nat) : ∀ (c : List Step) (s : St), (partF f c s).kind = 1 → (partF f c s).why = 0 := by
  induction f with
  | zero => intro c s _; rfl
  | succ f ih =>
    intro c s
    cases c with
    | nil => intro _; rfl
    | cons x c =>
      simp only [partF]
      split
      · split
        · exact ih c _
        · intro h; exact absurd h (ended_ne s 4 x.b (by decide))
      split
      · exact ih c _
      split
      · split
        · exact ih c _
        · intro h; exact absurd h (ended_ne s 4 x.a (by decide))
      split
      · split
        · exact ih _ s
        · exact ih _ s
      split
      · intro h; exact absurd h (ended_ne s 2 0 (by decide))
      split
      · intro h; exact absurd h (ended_ne s 3 x.a (by decide))
      · have h2 : ∀ r : St, r = (if (partF f (c.take x.a.toNat) (onPath s 1)).kind = 2 then partF f ((c.drop x.a.toNat).take x.b.toNat) (saw (onPath s 2) (partF f (c.take x.a.toNat) (onPath s 1)).seen) else partF f (c.take x.a.toNat) (onPath s 1)) → r.kind = 1 → r.why = 0 := by
          rintro r rfl
          split
          · exact ih _ _
          · exact ih _ _
        revert h2
        generalize (if (partF f (c.take x.a.toNat) (onPath s 1)).kind = 2 then partF f ((c.drop x.a.toNat).take x.b.toNat) (saw (onPath s 2) (partF f (c.take x.a.toNat) (onPath s 1)).seen) else partF f (c.take x.a.toNat) (onPath s 1)) = r
        intro h2
        split
        · exact ih _ _
        · exact h2 r rfl
theorem part_no (c : List Step) (s : St) (h : (part c s).kind = 1) : (part c s).why = 0 := part_why _ c s h
def eitherL (a b : List Step) : List Step := ⟨7, (a.length : Int), (b.length : Int), []⟩ :: (a ++ b)
/-- An Either alone: how it ends. -/
theorem either_end (a b : List Step) (s : St) : part (eitherL a b) s = (if (eitherS a b s).kind = 1 then ended (eitherS a b s) 1 0 else eitherS a b s) := by
  have h := part_either ⟨7, (a.length : Int), (b.length : Int), []⟩ s a b [] rfl rfl rfl
  rw [List.append_nil] at h
  exact h
theorem like_start (h : List Heap.Cell) (x : Int) (f : Nat → Bool) : Like [x] [] f (fun _ => false) true (saw (onPath (s0 h) x) f) (s0 h) :=
  ⟨rfl, rfl, ⟨[], rfl, rfl⟩, fun _ => ⟨rfl, fun _ => false, fun n => ⟨by show f n = (f n || false); simp, rfl⟩⟩⟩
theorem saw_none (h : List Heap.Cell) (x : Int) : saw (onPath (s0 h) x) (fun _ => false) = onPath (s0 h) x := rfl
/-- Of an Either: it is the first part, or, if that ends as Again, the second one. -/
theorem either_like (a b : List Step) (h : List Heap.Cell) :
    ∃ (w : List Step) (way : Int) (f : Nat → Bool), ((part a (s0 h)).kind ≠ 2 ∧ w = a ∧ way = 1 ∧ f = (fun _ => false) ∨ (part a (s0 h)).kind = 2 ∧ w = b ∧ way = 2 ∧ ∀ n, f n = (part a (s0 h)).seen n) ∧
      Like [way] [] f (fun _ => false) true (part (eitherL a b) (s0 h)) (part w (s0 h)) ∧ (part (eitherL a b) (s0 h)).kind = (part w (s0 h)).kind ∧ (part (eitherL a b) (s0 h)).why = (part w (s0 h)).why := by
  have l1 := like a (like_start h 1 (fun _ => false))
  rw [saw_none] at l1
  obtain ⟨la, ka, wa⟩ := l1
  have hend : ∀ (w : List Step) (e : St) (way : Int) (f : Nat → Bool), Like [way] [] f (fun _ => false) true e (part w (s0 h)) → e.kind = (part w (s0 h)).kind → e.why = (part w (s0 h)).why →
      Like [way] [] f (fun _ => false) true (if e.kind = 1 then ended e 1 0 else e) (part w (s0 h)) ∧ (if e.kind = 1 then ended e 1 0 else e).kind = (part w (s0 h)).kind ∧ (if e.kind = 1 then ended e 1 0 else e).why = (part w (s0 h)).why := by
    intro w e way f hl hk hw
    split
    · rename_i h1
      exact ⟨⟨hl.h, hl.regs, hl.path, hl.more⟩, by rw [← hk, h1]; rfl, by rw [part_no w (s0 h) (by rw [← hk]; exact h1)]; rfl⟩
    · exact ⟨hl, hk, hw⟩
  by_cases h2 : (part a (onPath (s0 h) 1)).kind = 2
  · have hes : eitherS a b (s0 h) = part b (saw (onPath (s0 h) 2) (part a (onPath (s0 h) 1)).seen) := by unfold eitherS; rw [if_pos h2]
    obtain ⟨lb, kb, wb⟩ := like b (like_start h 2 (part a (onPath (s0 h) 1)).seen)
    refine ⟨b, 2, (part a (onPath (s0 h) 1)).seen, .inr ⟨by rw [← ka]; exact h2, rfl, rfl, fun n => ?_⟩, ?_⟩
    · obtain ⟨_, D, hD⟩ := la.more rfl
      rw [(hD n).1, (hD n).2]
    · rw [either_end, hes]
      exact hend b _ 2 _ lb kb wb
  · have hes : eitherS a b (s0 h) = part a (onPath (s0 h) 1) := by unfold eitherS; rw [if_neg h2]
    refine ⟨a, 1, fun _ => false, .inl ⟨by rw [← ka]; exact h2, rfl, rfl, rfl⟩, ?_⟩
    rw [either_end, hes]
    exact hend a _ 1 _ la ka wa
/-- The parts of an Either that is a code are codes. -/
theorem either_codes (a b : List Step) (h : checkS (eitherL a b) = 0) : checkS a = 0 ∧ checkS b = 0 := by
  obtain ⟨h1, h2, h3, h4⟩ := check_ok _ h
  unfold eitherL at h1 h2 h3 h4
  have hw := well_either ⟨7, (a.length : Int), (b.length : Int), []⟩ a b [] rfl rfl rfl
  rw [List.append_nil] at hw
  rw [hw] at h3 h4
  rw [List.length_cons, List.length_append] at h1
  rw [List.all_cons, List.all_append, Bool.and_eq_true, Bool.and_eq_true] at h2
  rw [Bool.and_eq_true, Bool.and_eq_true] at h3
  simp only at h4
  exact ⟨check_mk a (by omega) h2.2.1 h3.1.1 (by omega), check_mk b (by omega) h2.2.2 h3.1.2 (by omega)⟩

/-! Two codes, with all registers set to 0 between. -/
def zeroS (i : Int) : Step := ⟨2, i, 0, [⟨1, 0⟩]⟩
def zeros : List Step := [0, 1, 2, 3, 4, 5, 6, 7].map zeroS
theorem zero_tell (s : St) (hr : Heap.rightB s.h = true) : tellM s [⟨1, 0⟩] = 0 := by
  unfold tellM; rw [Term.eval_const 0 s.h s.regs (by decide) hr]
theorem part_zeros (l : List Int) : ∀ (b : List Step) (s : St), Heap.rightB s.h = true → part (l.map zeroS ++ b) s = part b { s with regs := l.foldl (fun r i => r.set i.toNat 0) s.regs } := by
  induction l with
  | nil => intro b s _; rfl
  | cons i l ih =>
    intro b s hr
    rw [List.map_cons, List.cons_append, part_set (zeroS i) _ s rfl]
    have : tellM s (zeroS i).t = 0 := zero_tell s hr
    rw [this]
    exact ih b (setTo s i 0) hr
theorem zeros_regs (r : List Int) (h : r.length = 8) : [(0 : Int), 1, 2, 3, 4, 5, 6, 7].foldl (fun r i => r.set i.toNat 0) r = List.replicate 8 0 := by
  match r, h with
  | [a, b, c, d, e, f, g, i], _ => rfl
theorem zeros_well (b : List Step) : wellP (zeros ++ b) = wellP b := by
  show wellP (zeroS 0 :: zeroS 1 :: zeroS 2 :: zeroS 3 :: zeroS 4 :: zeroS 5 :: zeroS 6 :: zeroS 7 :: b) = _
  have hz : ∀ (i : Int) (c : List Step), wellP (zeroS i :: c) = wellP c := fun i c => well_plain (zeroS i) c (by show (2 : Int) ≠ 7; decide) (fun h => by have h1 : (2 : Int) = 4 := h.1; omega)
  rw [hz, hz, hz, hz, hz, hz, hz, hz]
theorem two_codes (a b : List Step) (h : checkS (a ++ (zeros ++ b)) = 0) (ha : checkS a = 0) : checkS b = 0 := by
  obtain ⟨h1, h2, h3, h4⟩ := check_ok _ h
  obtain ⟨_, a2, a3, _⟩ := check_ok _ ha
  rw [List.length_append, List.length_append] at h1
  rw [List.all_append, List.all_append, Bool.and_eq_true, Bool.and_eq_true] at h2
  have hd := well_drop a.length _ (by rw [List.all_append, List.all_append, h2.1, h2.2.1, h2.2.2]; rfl) h3
  rw [List.drop_left] at hd
  have hw := behind_well a.length a (zeros ++ b) (Nat.le_refl _) a2 a3 hd
  rw [hw] at h4
  rw [zeros_well] at h4 hd
  simp only at h4
  exact check_mk b (by omega) h2.2.2 hd (by omega)
/-- Two codes: how they end. -/
theorem two_end (a b : List Step) (h : List Heap.Cell) (ha : checkS a = 0) (hr : Heap.rightB h = true) :
    ((part a (s0 h)).kind ≠ 1 ∧ part (a ++ (zeros ++ b)) (s0 h) = part a (s0 h)) ∨
    ((part a (s0 h)).kind = 1 ∧ Heap.rightB (part a (s0 h)).h = true ∧ Like (part a (s0 h)).path [] (fun _ => false) (fun _ => false) false (part (a ++ (zeros ++ b)) (s0 h)) (part b (s0 (part a (s0 h)).h)) ∧
      (part (a ++ (zeros ++ b)) (s0 h)).kind = (part b (s0 (part a (s0 h)).h)).kind ∧ (part (a ++ (zeros ++ b)) (s0 h)).why = (part b (s0 (part a (s0 h)).h)).why) := by
  obtain ⟨_, a2, a3, _⟩ := check_ok _ ha
  have hb := part_behind a a2 a3 (zeros ++ b) (s0 h)
  by_cases h1 : (part a (s0 h)).kind = 1
  · have K := keeps a (s0 h)
    rw [if_pos h1] at hb
    have hz := part_zeros [0, 1, 2, 3, 4, 5, 6, 7] b (part a (s0 h)) (K.right hr)
    rw [zeros_regs _ (by rw [K.regs]; rfl)] at hz
    rw [hb]
    refine .inr ⟨h1, K.right hr, ?_⟩
    show Like _ _ _ _ _ (part (zeros ++ b) (part a (s0 h))) _ ∧ _
    unfold zeros
    rw [hz]
    exact like b ⟨rfl, rfl, ⟨[], by rw [List.append_nil], rfl⟩, fun e => by cases e⟩
  · rw [if_neg h1] at hb
    exact .inl ⟨h1, hb⟩

/-! A Skip. -/
def skipS (n : Nat) (v : Int) : Step := ⟨4, (n : Int), 0, [⟨1, v⟩]⟩
theorem skip_end (a : List Step) (v : Int) (s : St) (hv : Heap.vB v = true) (hr : Heap.rightB s.h = true) : part (skipS a.length v :: a) s = if v = 0 then ended s 1 0 else part a s := by
  have ht : tellM s (skipS a.length v).t = v := by show tellM s [⟨1, v⟩] = v; unfold tellM; rw [Term.eval_const v s.h s.regs hv hr]
  rw [part_skip _ _ s rfl, ht]
  split
  · have : a.drop (skipS a.length v).a.toNat = [] := by
      show a.drop ((a.length : Int)).toNat = []
      rw [Int.toNat_natCast, List.drop_length]
    rw [this]; rfl
  · rfl
theorem skip_code (a : List Step) (v : Int) (hv : Heap.vB v = true) (h1 : 1 ≤ a.length) (h20 : a.length ≤ 20) : (checkS (skipS a.length v :: a) = 0) ↔ (checkS a = 0) := by
  have hrk : reckonsB [⟨1, v⟩] = true := by
    have hone : Term.oneB ⟨1, v⟩ = true := by unfold Term.oneB; rw [if_pos rfl]; exact hv
    have hc : Term.checkS [⟨1, v⟩] = 0 := Term.check_mk [⟨1, v⟩] (by simp) (by simp) (by rw [List.all_cons, hone]; rfl) rfl
    have hz : (Term.cellsS [⟨1, v⟩]).length = 0 := by unfold Term.cellsS; rw [if_pos hc]; rfl
    unfold reckonsB
    rw [decide_eq_true hc, decide_eq_true hz]; rfl
  have hone : oneB (skipS a.length v) = true := by
    have e : (skipS a.length v).d = 4 := rfl
    unfold oneB
    rw [e, if_neg (by decide), if_neg (by decide), if_neg (by decide), if_pos rfl]
    show (reckonsB [⟨1, v⟩] && decide (1 ≤ (a.length : Int) ∧ (a.length : Int) ≤ 24 ∧ (0 : Int) = 0)) = true
    rw [hrk, Bool.true_and, decide_eq_true_eq]
    omega
  have hw : wellP (skipS a.length v :: a) = wellP a := well_plain _ _ (by show (4 : Int) ≠ 7; decide) (fun h => by have h2 : (a.length : Int) < (a.length : Int) := h.2; omega)
  constructor
  · intro h
    obtain ⟨_, g2, g3, g4⟩ := check_ok _ h
    rw [hw] at g3 g4
    rw [List.all_cons, Bool.and_eq_true] at g2
    exact check_mk a (by omega) g2.2 g3 g4
  · intro h
    obtain ⟨_, g2, g3, g4⟩ := check_ok _ h
    exact check_mk _ (by rw [List.length_cons]; omega) (by rw [List.all_cons, hone, g2]; rfl) (by rw [hw]; exact g3) (by rw [hw]; exact g4)
end Go.Proofs.YtadofonlkjkcmaaGreat.Model

namespace Go.Proofs.YtadofonlkjkcmaaGreat.Model
open Go.ChangeShapes Go.WideShapes Go.ChangeAt Go.RowKit Mem Go.Proofs.YtadofonlkjkcmaaGreat.Code

/-- What a run that keeps a log has so far. -/
structure CS where
  regs : List Int
  path : List Int
  log : List Heap.Write
  seen : List Int
  why : Int
/-- What it stands for. -/
def abs (h : List Heap.Cell) (m : CS) (k : Int) : St :=
  ⟨Heap.putAll h m.log, fun n => m.log.any (fun x => decide (x.cell = (n : Int))), m.regs, m.path, fun n => m.seen.any (fun z => decide (z = (n : Int))), k, m.why⟩
/-- Such a run, with room for so many steps more. -/
structure Good (h : List Heap.Cell) (m : CS) (left : Nat) : Prop where
  right : Heap.rightB h = true
  live : m.log.all (fun w => Heap.liveAt h w.cell) = true
  vals : m.log.all (fun w => Heap.vB w.value) = true
  cnt : m.log.length + left ≤ 24
  regs : m.regs.length = 8
  path : m.path.length + left ≤ 24
  seen : m.seen.length + left ≤ 24
  cells : ∀ z ∈ m.seen, 0 ≤ z ∧ z < 64
section
variable {h : List Heap.Cell} {m : CS} {left : Nat}
theorem Good.weak (g : Good h m left) (k : Nat) (hk : k ≤ left) : Good h m k :=
  ⟨g.right, g.live, g.vals, by have := g.cnt; omega, g.regs, by have := g.path; omega, by have := g.seen; omega, g.cells⟩
theorem Good.log (g : Good h m left) : Writes.rightB ⟨m.log, []⟩ = true := by
  rw [Writes.right_parts]
  refine ⟨by have := g.cnt; show m.log.length ≤ 24; omega, List.all_eq_true.2 fun x hx => ?_, by show 0 ≤ 6; omega, rfl⟩
  have h1 := List.all_eq_true.1 g.live x hx
  have h2 := List.all_eq_true.1 g.vals x hx
  obtain ⟨h3, _, _⟩ := Heap.live_in h _ h1
  unfold Writes.oneB
  rw [decide_eq_true h3, h2]; rfl
theorem Good.heap (g : Good h m left) : Heap.rightB (Heap.putAll h m.log) = true := Heap.putAll_right h m.log g.right g.vals
theorem Good.liveAll (g : Good h m left) (b : Int) (k : Int) : Heap.liveAt (abs h m k).h b = Heap.liveAt h b := Heap.putAll_live h m.log g.live b
theorem Good.get (g : Good h m left) (b : Int) : Heap.getS h b = if Heap.liveAt h b = true then (Heap.valAt h b, 0) else (0, 3) := by
  unfold Heap.getS; rw [if_pos g.right]
theorem Good.logget (g : Good h m left) (b : Int) : Writes.getS ⟨m.log, []⟩ b = Writes.orNo (Writes.getL m.log b) := by
  unfold Writes.getS; rw [if_pos g.log]
theorem Good.tell (g : Good h m left) (t : List Term.Op) (ht : reckonsB t = true) (k : Int) : tellM (abs h m k) t = (Term.evalS t h m.regs).1 := by
  unfold tellM
  rw [tell_free t ht (abs h m k).h h (abs h m k).regs g.heap g.right]; rfl
theorem Good.val (g : Good h m left) (b : Int) (hl : Heap.liveAt h b = true) (k : Int) : Heap.valAt (abs h m k).h b = (Writes.getL m.log b).getD (Heap.valAt h b) := by
  obtain ⟨h0, h1, x, hx, _⟩ := Heap.live_in h b hl
  have hb : ((b.toNat : Nat) : Int) = b := by omega
  have := Heap.putAll_at h m.log g.live b.toNat x hx
  show Heap.valAt (Heap.putAll h m.log) b = _
  rw [← hb, Heap.val_at _ _ _ this, Heap.val_at h b.toNat x hx, Writes.lastV_get]
theorem wrote_get (l : List Heap.Write) (b : Int) (hb : 0 ≤ b) : l.any (fun x => decide (x.cell = (b.toNat : Int))) = (Writes.getL l b).isSome := by
  have e : ((b.toNat : Nat) : Int) = b := by omega
  rw [e]
  cases hg : Writes.getL l b with
  | none =>
    rw [Option.isSome_none, Bool.eq_false_iff]
    intro h
    obtain ⟨x, hx, hc⟩ := List.any_eq_true.1 h
    obtain ⟨v, hv⟩ := Writes.get_has l b x hx (of_decide_eq_true hc)
    rw [hg] at hv; cases hv
  | some v =>
    rw [Option.isSome_some]
    exact List.any_eq_true.2 ⟨_, Writes.get_some l b v hg, by simp⟩
/-- A Load of a cell that is live: of one that was stored, and of one that was not. -/
def loadC (h : List Heap.Cell) (m : CS) (a b : Int) : CS :=
  match Writes.getL m.log b with
  | some v => { m with regs := m.regs.set a.toNat v }
  | none => { m with regs := m.regs.set a.toNat (Heap.valAt h b), seen := m.seen ++ [b] }
def setC (m : CS) (a v : Int) : CS := { m with regs := m.regs.set a.toNat v }
def storeC (m : CS) (a v : Int) : CS := { m with log := m.log ++ [⟨a, v⟩] }
def pathC (m : CS) (p : Int) : CS := { m with path := m.path ++ [p] }
def whyC (m : CS) (v : Int) : CS := { m with why := v }
theorem load_abs (g : Good h m left) (a b : Int) (hl : Heap.liveAt h b = true) (k : Int) : loaded (abs h m k) a b = abs h (loadC h m a b) k := by
  obtain ⟨h0, _, _⟩ := Heap.live_in h b hl
  unfold loaded loadC
  rw [g.val b hl k]
  have hw : (abs h m k).wrote b.toNat = (Writes.getL m.log b).isSome := wrote_get m.log b h0
  rw [hw]
  cases hg : Writes.getL m.log b with
  | some v => rfl
  | none =>
    simp only [Option.isSome_none, Bool.false_eq_true, if_false, Option.getD_none]
    unfold abs
    simp only [St.mk.injEq, true_and, and_true]
    funext n
    unfold upd
    rw [List.any_append, List.any_cons, List.any_nil, Bool.or_false]
    by_cases hn : n = b.toNat
    · rw [if_pos hn, decide_eq_true (show b = (n : Int) by omega), Bool.or_true]
    · rw [if_neg hn, decide_eq_false (show ¬ b = (n : Int) by omega), Bool.or_false]
theorem set_abs (a v k : Int) : setTo (abs h m k) a v = abs h (setC m a v) k := rfl
theorem store_abs (a v k : Int) (ha : 0 ≤ a) : stored (abs h m k) a v = abs h (storeC m a v) k := by
  unfold stored storeC abs
  simp only [St.mk.injEq, and_true]
  refine ⟨by rw [Heap.putAll_append]; rfl, ?_⟩
  funext n
  unfold upd
  rw [List.any_append, List.any_cons, List.any_nil, Bool.or_false]
  by_cases hn : n = a.toNat
  · rw [if_pos hn, decide_eq_true (show a = (n : Int) by omega), Bool.or_true]
  · rw [if_neg hn, decide_eq_false (show ¬ a = (n : Int) by omega), Bool.or_false]
theorem path_abs (p k : Int) : onPath (abs h m k) p = abs h (pathC m p) k := rfl
theorem Good.load_ (g : Good h m (left + 1)) (a b : Int) (hb : 0 ≤ b ∧ b < 64) : Good h (loadC h m a b) left := by
  have hc := g.cnt
  have hp := g.path
  have hs := g.seen
  unfold loadC
  cases Writes.getL m.log b with
  | some v => exact ⟨g.right, g.live, g.vals, by show m.log.length + _ ≤ _; omega, by show (m.regs.set _ _).length = 8; rw [List.length_set]; exact g.regs, by show m.path.length + _ ≤ _; omega, by show m.seen.length + _ ≤ _; omega, g.cells⟩
  | none =>
    refine ⟨g.right, g.live, g.vals, by show m.log.length + _ ≤ _; omega, by show (m.regs.set _ _).length = 8; rw [List.length_set]; exact g.regs, by show m.path.length + _ ≤ _; omega, by show (m.seen ++ [b]).length + _ ≤ _; rw [List.length_append, List.length_singleton]; omega, ?_⟩
    intro z hz
    rcases List.mem_append.1 hz with hz | hz
    · exact g.cells z hz
    · rw [List.mem_singleton.1 hz]; exact hb
theorem Good.set_ (g : Good h m (left + 1)) (a v : Int) : Good h (setC m a v) left := by
  have hc := g.cnt
  have hp := g.path
  have hs := g.seen
  exact ⟨g.right, g.live, g.vals, by show m.log.length + _ ≤ _; omega, by show (m.regs.set _ _).length = 8; rw [List.length_set]; exact g.regs, by show m.path.length + _ ≤ _; omega, by show m.seen.length + _ ≤ _; omega, g.cells⟩
theorem Good.store_ (g : Good h m (left + 1)) (a v : Int) (hl : Heap.liveAt h a = true) (hv : Heap.vB v = true) : Good h (storeC m a v) left := by
  have hc := g.cnt
  have hp := g.path
  have hs := g.seen
  refine ⟨g.right, ?_, ?_, by show (m.log ++ [_]).length + _ ≤ _; rw [List.length_append, List.length_singleton]; omega, g.regs, by show m.path.length + _ ≤ _; omega, by show m.seen.length + _ ≤ _; omega, g.cells⟩
  · show (m.log ++ [_]).all _ = true
    rw [List.all_append, g.live, List.all_cons, List.all_nil, hl]; rfl
  · show (m.log ++ [_]).all _ = true
    rw [List.all_append, g.vals, List.all_cons, List.all_nil, hv]; rfl
theorem Good.path_ (g : Good h m (left + 1)) (p : Int) : Good h (pathC m p) left := by
  have hc := g.cnt
  have hp := g.path
  have hs := g.seen
  exact ⟨g.right, g.live, g.vals, by show m.log.length + _ ≤ _; omega, g.regs, by show (m.path ++ [p]).length + _ ≤ _; rw [List.length_append, List.length_singleton]; omega, by show m.seen.length + _ ≤ _; omega, g.cells⟩
theorem Good.why_ (g : Good h m left) (v : Int) : Good h (whyC m v) left := ⟨g.right, g.live, g.vals, g.cnt, g.regs, g.path, g.seen, g.cells⟩
end
/-- Where a part ends as Again, there is no why. -/
theorem part_again (f : Nat) : ∀ (c : List Step) (s : St), (partF f c s).kind = 2 → (partF f c s).why = 0 := by
  induction f with
  | zero => intro c s h; exact absurd h (by show ¬ (1 : Int) = 2; decide)
  | succ f ih =>
    intro c s
    cases c with
    | nil => intro h; exact absurd h (by show ¬ (1 : Int) = 2; decide)
    | cons x c =>
      simp only [partF]
      split
      · split
        · exact ih c _
        · intro h; exact absurd h (by show ¬ (4 : Int) = 2; decide)
      split
      · exact ih c _
      split
      · split
        · exact ih c _
        · intro h; exact absurd h (by show ¬ (4 : Int) = 2; decide)
      split
      · split
        · exact ih _ s
        · exact ih _ s
      split
      · intro _; rfl
      split
      · intro h; exact absurd h (by show ¬ (3 : Int) = 2; decide)
      · have h2 : ∀ r : St, r = (if (partF f (c.take x.a.toNat) (onPath s 1)).kind = 2 then partF f ((c.drop x.a.toNat).take x.b.toNat) (saw (onPath s 2) (partF f (c.take x.a.toNat) (onPath s 1)).seen) else partF f (c.take x.a.toNat) (onPath s 1)) → r.kind = 2 → r.why = 0 := by
          rintro r rfl
          split
          · exact ih _ _
          · exact ih _ _
        revert h2
        generalize (if (partF f (c.take x.a.toNat) (onPath s 1)).kind = 2 then partF f ((c.drop x.a.toNat).take x.b.toNat) (saw (onPath s 2) (partF f (c.take x.a.toNat) (onPath s 1)).seen) else partF f (c.take x.a.toNat) (onPath s 1)) = r
        intro h2
        split
        · exact ih _ _
        · exact h2 r rfl
/-- There are four ways to end. -/
theorem part_four (f : Nat) : ∀ (c : List Step) (s : St), (partF f c s).kind = 1 ∨ (partF f c s).kind = 2 ∨ (partF f c s).kind = 3 ∨ (partF f c s).kind = 4 := by
  induction f with
  | zero => intro c s; exact .inl rfl
  | succ f ih =>
    intro c s
    cases c with
    | nil => exact .inl rfl
    | cons x c =>
      simp only [partF]
      split
      · split
        · exact ih c _
        · exact .inr (.inr (.inr rfl))
      split
      · exact ih c _
      split
      · split
        · exact ih c _
        · exact .inr (.inr (.inr rfl))
      split
      · split
        · exact ih _ s
        · exact ih _ s
      split
      · exact .inr (.inl rfl)
      split
      · exact .inr (.inr (.inl rfl))
      · have h2 : ∀ r : St, r = (if (partF f (c.take x.a.toNat) (onPath s 1)).kind = 2 then partF f ((c.drop x.a.toNat).take x.b.toNat) (saw (onPath s 2) (partF f (c.take x.a.toNat) (onPath s 1)).seen) else partF f (c.take x.a.toNat) (onPath s 1)) → r.kind = 1 ∨ r.kind = 2 ∨ r.kind = 3 ∨ r.kind = 4 := by
          rintro r rfl
          split
          · exact ih _ _
          · exact ih _ _
        revert h2
        generalize (if (partF f (c.take x.a.toNat) (onPath s 1)).kind = 2 then partF f ((c.drop x.a.toNat).take x.b.toNat) (saw (onPath s 2) (partF f (c.take x.a.toNat) (onPath s 1)).seen) else partF f (c.take x.a.toNat) (onPath s 1)) = r
        intro h2
        split
        · exact ih _ _
        · exact h2 r rfl
/-- Of two lists that rise by cells, with the same writes: one. -/
theorem rises_eq (a b : List Heap.Write) (ha : Writes.Rises a) (hb : Writes.Rises b) (h : ∀ x, x ∈ a ↔ x ∈ b) : a = b := by
  induction a generalizing b with
  | nil =>
    cases b with
    | nil => rfl
    | cons y b => exact absurd ((h y).2 (List.mem_cons_self ..)) (by simp)
  | cons x a ih =>
    cases b with
    | nil => exact absurd ((h x).1 (List.mem_cons_self ..)) (by simp)
    | cons y b =>
      unfold Writes.Rises at ha hb
      rw [List.pairwise_cons] at ha hb
      have hxy : x = y := by
        rcases List.mem_cons.1 ((h x).1 (List.mem_cons_self ..)) with e | e
        · exact e
        · rcases List.mem_cons.1 ((h y).2 (List.mem_cons_self ..)) with e2 | e2
          · exact e2.symm
          · have := hb.1 x e; have := ha.1 y e2; omega
      subst hxy
      rw [ih b ha.2 hb.2 (fun z => ?_)]
      constructor
      · intro hz
        rcases List.mem_cons.1 ((h z).1 (List.mem_cons_of_mem _ hz)) with e | e
        · have := ha.1 z hz; rw [e] at this; omega
        · exact e
      · intro hz
        rcases List.mem_cons.1 ((h z).2 (List.mem_cons_of_mem _ hz)) with e | e
        · have := hb.1 z hz; rw [e] at this; omega
        · exact e
/-- What is written: of each cell the last write. -/
theorem writes_abs {h : List Heap.Cell} {m : CS} {left : Nat} (g : Good h m left) (k : Int) : Writes.lastL m.log = writesS (abs h m k) := by
  refine rises_eq _ _ (Writes.last_rise _) ?_ (fun x => ?_)
  · unfold writesS Writes.Rises
    rw [List.pairwise_map]
    exact (pick_strict _ _).imp (fun h => h)
  · have hlive := g.live
    constructor
    · intro hx
      have hg := Writes.last_mem _ x hx
      have hin := Writes.last_sub _ x hx
      have hl := List.all_eq_true.1 hlive x hin
      obtain ⟨h0, h1, y, hy, _⟩ := Heap.live_in h x.cell hl
      have e : ((x.cell.toNat : Nat) : Int) = x.cell := by omega
      refine List.mem_map.2 ⟨x.cell, (pick_mem _ _ _).2 ⟨x.cell.toNat, ?_, ?_, e.symm⟩, ?_⟩
      · show _ < (Heap.putAll h m.log).length
        rw [putAll_len]; exact h1
      · show m.log.any _ = true
        rw [wrote_get m.log x.cell h0, hg]; rfl
      · rw [g.val x.cell hl k, hg]; rfl
    · intro hx
      obtain ⟨z, hz, rfl⟩ := List.mem_map.1 hx
      obtain ⟨i, h1, h2, rfl⟩ := (pick_mem _ _ z).1 hz
      have h3 : m.log.any (fun x => decide (x.cell = (i : Int))) = true := h2
      obtain ⟨y, hy, hc⟩ := List.any_eq_true.1 h3
      have hc := of_decide_eq_true hc
      obtain ⟨y2, hy2, hc2⟩ := Writes.last_cell m.log y hy
      have hl := List.all_eq_true.1 hlive y hy
      rw [hc] at hl hc2
      have hg := Writes.last_mem _ y2 hy2
      rw [hc2] at hg
      have : (⟨(i : Int), Heap.valAt (abs h m k).h (i : Int)⟩ : Heap.Write) = y2 := by
        rw [g.val _ hl k, hg, ← hc2]; rfl
      rw [this]; exact hy2
/-- The heap with them. -/
theorem put_abs {h : List Heap.Cell} {m : CS} {left : Nat} (g : Good h m left) (k : Int) : Heap.putS h (Writes.lastL m.log) = ((abs h m k).h, 0) := by
  have h1 := Writes.last_put ⟨m.log, []⟩ g.log h
  unfold Writes.lastS at h1
  rw [if_pos g.log] at h1
  rw [h1]
  unfold Heap.putS
  rw [if_pos (by rw [g.right, g.vals]; rfl), if_pos g.live]; rfl
/-- What was seen. -/
theorem seen_abs {h : List Heap.Cell} {m : CS} {left : Nat} (g : Good h m left) (k : Int) : Lib.compact (sortZ m.seen) = pick (abs h m k).seen 64 := by
  refine compact_pick m.seen _ 64 (fun x => ?_)
  constructor
  · intro hx
    obtain ⟨h0, h1⟩ := g.cells x hx
    exact ⟨x.toNat, by omega, List.any_eq_true.2 ⟨x, hx, by rw [decide_eq_true_eq]; omega⟩, by omega⟩
  · rintro ⟨i, _, h2, rfl⟩
    obtain ⟨y, hy, hc⟩ := List.any_eq_true.1 h2
    rw [← of_decide_eq_true hc]; exact hy
end Go.Proofs.YtadofonlkjkcmaaGreat.Model
