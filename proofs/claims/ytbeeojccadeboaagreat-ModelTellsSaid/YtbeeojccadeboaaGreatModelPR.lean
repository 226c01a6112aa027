/-
  PLAIN LEMMAS FOR THE DOCUMENT'S RUN BY PLACES: a part of a code from a place up to another one; what the contracts of its functions say. No conditions beyond those that each theorem states.
-/
import Derived.Test.YtbeeojccadeboaaGreatModelRef
import Derived.Test.YtbeeojccadeboaaGreatModelPath
import Derived.Test.YtbeeojccadeboaaGreatCodeA
import Derived.Deep.RegionHeld3
import Derived.Deep.MidRow
namespace Go.Proofs.YtbeeojccadeboaaGreat.Model
open Go.ChangeShapes Go.WideShapes Go.ChangeAt Go.RowKit Mem Go.Proofs.YtbeeojccadeboaaGreat.Code

theorem term_short (t : List Term.Op) (h : reckonsB t = true) : t.length ≤ 12 := by
  obtain ⟨_, h3, _⟩ := Term.check_ok t (reck_kind t h).1
  omega
theorem pr_load (s : Step) (h : oneB s = true) (hd : s.d = 1) : 0 ≤ s.a ∧ s.a ≤ 7 ∧ 0 ≤ s.b ∧ s.b ≤ 63 := by
  unfold oneB at h
  rw [if_pos hd] at h
  simp at h; omega
theorem pr_set (s : Step) (h : oneB s = true) (hd : s.d = 2) : 0 ≤ s.a ∧ s.a ≤ 7 := by
  unfold oneB at h
  rw [if_neg (by omega), if_pos hd] at h
  simp at h; omega
theorem pr_store (s : Step) (h : oneB s = true) (hd : s.d = 3) : 0 ≤ s.a ∧ s.a ≤ 63 := by
  unfold oneB at h
  rw [if_neg (by omega), if_neg (by omega), if_pos hd] at h
  simp at h; omega
theorem Sb.blk {w : World} {g : Nat} {r : RS} (h : Sb w g r) {cr : Array Value} (hc : (sc r).toArray = cr) : Blk w g 105 cr := by rw [← hc]; exact h
/-- The steps from one place up to another one. -/
def seg (c : List Step) (frm to : Nat) : List Step := (c.drop frm).take (to - frm)
theorem seg_nil (c : List Step) (frm to : Nat) (h : to ≤ frm) : seg c frm to = [] := by
  unfold seg; rw [show to - frm = 0 by omega]; rfl
theorem seg_cons (c : List Step) (frm to : Nat) (x : Step) (hx : c[frm]? = some x) (h : frm < to) : seg c frm to = x :: seg c (frm + 1) to := by
  have hl := (List.getElem?_eq_some_iff.1 hx).1
  unfold seg
  rw [List.drop_eq_getElem_cons hl, show to - frm = (to - (frm + 1)) + 1 by omega, List.take_succ_cons]
  rw [(List.getElem?_eq_some_iff.1 hx).2]
theorem seg_drop (c : List Step) (frm to k : Nat) : (seg c frm to).drop k = seg c (frm + k) to := by
  unfold seg; rw [List.drop_take, List.drop_drop, show to - frm - k = to - (frm + k) by omega]
theorem seg_take (c : List Step) (frm to k : Nat) (h : frm + k ≤ to) : (seg c frm to).take k = seg c frm (frm + k) := by
  unfold seg; rw [List.take_take, show min k (to - frm) = frm + k - frm by omega]
theorem seg_len (c : List Step) (frm to : Nat) (h : to ≤ c.length) : (seg c frm to).length = to - frm := by
  unfold seg; rw [List.length_take, List.length_drop]; omega
theorem seg_all (c : List Step) (frm to : Nat) (h : c.all oneB = true) : (seg c frm to).all oneB = true :=
  List.all_eq_true.2 fun x hx => List.all_eq_true.1 h x (List.mem_of_mem_drop (List.mem_of_mem_take hx))
/-- The parts of an Either. -/
theorem parts_st (x : Step) (c : List Step) (ho : oneB x = true) (hd : x.d = 7) (hw : (wellP (x :: c)).2 = true) :
    ∃ a b : Nat, x.a = (a : Int) ∧ x.b = (b : Int) ∧ a + b ≤ c.length ∧ (wellP (c.take a)).2 = true ∧ (wellP ((c.drop a).take b)).2 = true ∧ (wellP (c.drop (a + b))).2 = true ∧
      ∀ s : St, part (x :: c) s = if (eitherS (c.take a) ((c.drop a).take b) s).kind = 1 then part (c.drop (a + b)) (eitherS (c.take a) ((c.drop a).take b) s) else eitherS (c.take a) ((c.drop a).take b) s := by
  have h1 := one_either x ho hd
  refine ⟨x.a.toNat, x.b.toNat, by omega, by omega, ?_⟩
  by_cases hlt : (c.length : Int) < x.a + x.b
  · rw [well_out x c hd hlt] at hw; cases hw
  have hle : x.a.toNat + x.b.toNat ≤ c.length := by omega
  have hla : (c.take x.a.toNat).length = x.a.toNat := by rw [List.length_take]; omega
  have hlb : ((c.drop x.a.toNat).take x.b.toNat).length = x.b.toNat := by rw [List.length_take, List.length_drop]; omega
  have e : c = c.take x.a.toNat ++ ((c.drop x.a.toNat).take x.b.toNat ++ c.drop (x.a.toNat + x.b.toNat)) := by
    rw [← List.drop_drop, List.take_append_drop, List.take_append_drop]
  have hw2 := hw
  rw [e, well_either x _ _ _ hd (by rw [hla]; omega) (by rw [hlb]; omega), Bool.and_eq_true, Bool.and_eq_true] at hw2
  refine ⟨hle, hw2.1.1, hw2.1.2, hw2.2, fun s => ?_⟩
  conv => lhs; rw [e]
  exact part_either x s _ _ _ hd (by rw [hla]; omega) (by rw [hlb]; omega)
/-- A state that lies well. -/
structure StR (w : World) (r : RS) : Prop where
  r8 : r.s.regs.length = 8
  heap : Rd w 2 r.A r.n (Heap.cs r.s.h)
  n64 : r.n ≤ 64
  path : Rd w 1 r.P r.pn (zs r.s.path)
theorem StR.below {w w' : World} {r : RS} (h : StR w r) (hb : Below w.heap.size w w') : StR w' r := ⟨h.r8, h.heap.below hb, h.n64, h.path.below hb⟩
/-- Where a list lies: where it lay, or in a block that has been made since. -/
def Fresh (w : World) (A : Option Addr) (n : Nat) (A' : Option Addr) (n' : Nat) : Prop := (A' = A ∧ n' = n) ∨ ∀ b off, A' = some ⟨b, off, none⟩ → w.heap.size ≤ b
theorem Fresh.refl (w : World) (A : Option Addr) (n : Nat) : Fresh w A n A n := .inl ⟨rfl, rfl⟩
theorem Fresh.trans {w w' : World} {A B C : Option Addr} {n m k : Nat} (h : Fresh w A n B m) (g : Fresh w' B m C k) (hs : w.heap.size ≤ w'.heap.size) : Fresh w A n C k := by
  rcases g with ⟨rfl, rfl⟩ | g
  · exact h
  · exact .inr fun b off e => by have := g b off e; omega
theorem rd_setRow {w : World} {k n g : Nat} {A : Option Addr} {xs : List Value} (h : Rd w k A n xs) (cs : Array Value) (hne : ∀ b off, A = some ⟨b, off, none⟩ → 0 < n → b ≠ g) : Rd (w.setRow g cs) k A n xs :=
  ⟨h.1, fun hn => by
    obtain ⟨b, off, e, hc⟩ := h.2 hn
    exact ⟨b, off, e, fun j u hu => (World.cell?_of_block (setRow_other w g b cs (hne b off e hn))).trans (hc j u hu)⟩⟩
/-- A list that lies in a block of a world. -/
def Old (w : World) (A : Option Addr) (n : Nat) : Prop := ∀ b off, A = some ⟨b, off, none⟩ → 0 < n → b < w.heap.size
theorem rd_old {w : World} {k n : Nat} {A : Option Addr} {xs : List Value} (h : Rd w k A n xs) (hk : 0 < k) : Old w A n := by
  intro b off e hn
  obtain ⟨b', off', e', hc⟩ := h.2 hn
  rw [e] at e'
  injection e' with e'
  injection e' with e1 e2
  subst e1 e2
  have hl : xs.length = n * k := h.1
  have h0 : 0 < xs.length := by rw [hl]; exact Nat.mul_pos hn hk
  exact cell_lt (hc 0 _ (List.getElem?_eq_getElem h0))
/-- It is not in a block that was made behind one world and ahead of another one. -/
theorem Fresh.ne {W : World} {A A' : Option Addr} {n n' g : Nat} (h : Fresh W A n A' n') (ho : ∀ b off, A = some ⟨b, off, none⟩ → 0 < n → b ≠ g) (hg : g < W.heap.size) : ∀ b off, A' = some ⟨b, off, none⟩ → 0 < n' → b ≠ g := by
  intro b off e hn
  rcases h with ⟨rfl, rfl⟩ | h
  · exact ho b off e hn
  · have := h b off e; omega
theorem Old.ne {w : World} {A : Option Addr} {n g : Nat} (h : Old w A n) (hg : w.heap.size ≤ g) : ∀ b off, A = some ⟨b, off, none⟩ → 0 < n → b ≠ g := fun b off e hn => by have := h b off e hn; omega
/-- What is returned: a state. -/
def RetSt (w : World) (r : RS) (s : St) (e : Ending) (w' : World) : Prop := ∃ r' : RS, e = .returned (.agg (sc r').toArray) ∧ r'.s = s ∧ StR w' r' ∧ Below w.heap.size w w' ∧ Fresh w r.A r.n r'.A r'.n ∧ Fresh w r.P r.pn r'.P r'.pn
theorem StR.setRow_ {w : World} {r : RS} {g : Nat} (h : StR w r) (ce : Array Value) (hA : ∀ b off, r.A = some ⟨b, off, none⟩ → 0 < r.n → b ≠ g) (hP : ∀ b off, r.P = some ⟨b, off, none⟩ → 0 < r.pn → b ≠ g) : StR (w.setRow g ce) r :=
  ⟨h.r8, rd_setRow h.heap ce hA, h.n64, rd_setRow h.path ce hP⟩
theorem ended_st (r : RS) (k v : Int) (w : World) (h : StR w r) : Calls Tryz.prog 88 #[.agg (sc r).toArray, .int .i64 k, .int .i64 v] w (RetSt w r (ended r.s k v)) :=
  (ended_r r k v w h.r8).mono (fun _ _ hp => ⟨{ r with s := ended r.s k v }, hp.1, rfl, ⟨h.r8, h.heap.below hp.2, h.n64, h.path.below hp.2⟩, hp.2, Fresh.refl _ _ _, Fresh.refl _ _ _⟩)
/-- A part of a code, at its places. -/
structure PrR (w : World) (A : Option Addr) (n : Nat) (l : List Raw) (frm to f : Nat) (r : RS) : Prop where
  code : At w A n l
  all : (ss l).all oneB = true
  le : frm ≤ to
  ton : to ≤ n
  n1000 : n ≤ 1000
  fuel : to - frm ≤ f
  well : (wellP (seg (ss l) frm to)).2 = true
  st : StR w r
  path : r.s.path.length + (to - frm) ≤ 1000
def PartR (f : Nat) : Prop := ∀ (l : List Raw) (A : Option Addr) (n c frm to : Nat) (r : RS) (w : World), PrR w A n l frm to f r → ∀ z1 z2 : Int, z1 = (frm : Int) → z2 = (to : Int) →
  Calls Tryz.prog 42 #[.slice A n c, .int .i64 z1, .int .i64 z2, .agg (sc r).toArray] w (RetSt w r (part (seg (ss l) frm to) r.s))
def EitherR (f : Nat) : Prop := ∀ (l : List Raw) (A : Option Addr) (n c frm mid to : Nat) (r : RS) (w : World), At w A n l → (ss l).all oneB = true → frm ≤ mid → mid ≤ to → to ≤ n → n ≤ 1000 → to - frm ≤ f → (wellP (seg (ss l) frm mid)).2 = true → (wellP (seg (ss l) mid to)).2 = true → StR w r → r.s.path.length + 1 + (to - frm) ≤ 1000 →
  ∀ z1 z2 z3 : Int, z1 = (frm : Int) → z2 = (mid : Int) → z3 = (to : Int) →
  Calls Tryz.prog 90 #[.slice A n c, .int .i64 z1, .int .i64 z2, .int .i64 z3, .agg (sc r).toArray] w (RetSt w r (eitherS (seg (ss l) frm mid) (seg (ss l) mid to) r.s))
section
variable {w : World} {A : Option Addr} {n : Nat} {l : List Raw} {frm to f : Nat} {r : RS}
/-- The step at a place, and what stands behind it. -/
theorem PrR.step (h : PrR w A n l frm to (f + 1) r) (hlt : frm < to) (x : Raw) (hx : l[frm]? = some x) : seg (ss l) frm to = x.s :: seg (ss l) (frm + 1) to ∧ oneB x.s = true ∧ (wellP (seg (ss l) (frm + 1) to)).2 = true := by
  have e := seg_cons (ss l) frm to x.s (ss_at l frm x hx) hlt
  have h1 := h.well
  rw [e] at h1
  have ho : oneB x.s = true := List.all_eq_true.1 h.all x.s (List.mem_of_getElem? (ss_at l frm x hx))
  exact ⟨e, ho, well_tail x.s _ (by rw [List.all_cons, ho, seg_all _ _ _ h.all]; rfl) h1⟩
theorem PrR.next (h : PrR w A n l frm to (f + 1) r) (hf : PartR f) {w' : World} (hb : Below w.heap.size w w') (r' : RS) (q : Nat) (c : Nat) (h1 : frm < q) (h2 : q ≤ to) (hw : (wellP (seg (ss l) q to)).2 = true) (hst : StR w' r') (hp : r'.s.path.length + (to - q) ≤ 1000) (z1 z2 : Int) (e1 : z1 = (q : Int)) (e2 : z2 = (to : Int)) :
    Calls Tryz.prog 42 #[.slice A n c, .int .i64 z1, .int .i64 z2, .agg (sc r').toArray] w' (RetSt w' r' (part (seg (ss l) q to) r'.s)) :=
  hf l A n c q to r' w' ⟨h.code.below hb, h.all, h2, h.ton, h.n1000, by have := h.fuel; omega, hw, hst, hp⟩ z1 z2 e1 e2
end
end Go.Proofs.YtbeeojccadeboaaGreat.Model
