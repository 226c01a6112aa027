/-
  PLAIN LEMMAS ON TRIES: how a try has ended, beside how the model's run ends. No conditions beyond those that each theorem states.
-/
import Derived.Test.YtadofonlkjkcmaaGreatAttemptSim
import Derived.Test.YtadofonlkjkcmaaGreatAttE
import Derived.Test.YtadofonlkjkcmaaGreatReadsA
namespace Go.Proofs.YtadofonlkjkcmaaGreat.Attempt
open Mem Go.Proofs.YtadofonlkjkcmaaGreat.Code
open Model (St CS)

section
variable {c : List Step} {h : List Heap.Cell} {t T : Try} {r : List Stripe.Rec} {S : St}
theorem seen_try (hi : Inv c T) (hs : Sim c h T) (k : Int) : Reads.cellsS T.reads = pick (absT h T k).seen 64 := by
  have hn : (T.reads.map Reads.Read.cell).Nodup := by
    have := hi.rds
    unfold Reads.goodB at this
    rw [Bool.and_eq_true, decide_eq_true_eq] at this
    exact this.2
  unfold Reads.cellsS
  rw [if_pos hi.right]
  refine strict_eq _ _ (Reads.sort_strict _ hn) (pick_strict _ _) (fun x => ?_)
  rw [(Reads.sort_perm _).mem_iff, pick_mem]
  constructor
  · intro hx
    obtain ⟨y, hy, rfl⟩ := List.mem_map.1 hx
    obtain ⟨h0, h1⟩ := live_64 hs.heap (hs.rds y hy).1
    refine ⟨y.cell.toNat, by omega, ?_, by omega⟩
    show (T.reads.map Reads.Read.cell).any _ = true
    exact List.any_eq_true.2 ⟨y.cell, hx, by rw [decide_eq_true_eq]; omega⟩
  · rintro ⟨j, _, hj, rfl⟩
    have : (T.reads.map Reads.Read.cell).any (fun z => decide (z = (j : Int))) = true := hj
    obtain ⟨z, hz, e⟩ := List.any_eq_true.1 this
    rw [decide_eq_true_eq] at e
    rw [← e]; exact hz
/-- How a try has ended is how the model's run ends. -/
theorem out_try (hi : Inv c T) (hs : Sim c h T) (he : End h T S) : outT T = Model.outS S := by
  have h1 := seen_try hi hs 0
  unfold outT Model.outS
  by_cases hk : T.kind = 1
  · have hk2 : S.kind = 1 := by rw [he.kind]; exact hk
    rw [if_pos hk, if_pos hk2]
    have e := he.done hk
    have h2 := seen_try hi hs 1
    have h3 : Writes.lastS T.log = Model.writesS S := by
      rw [e]
      unfold Writes.lastS
      rw [if_pos hi.log]
      exact Model.writes_abs (hi.good hs) 1
    rw [h2, h3, e]
    rw [hk]
    rfl
  · have hk2 : ¬ S.kind = 1 := by rw [he.kind]; exact hk
    rw [if_neg hk, if_neg hk2, h1, he.kind, he.why, he.seen]
/-- A Load that is stale. -/
def StaleAt (c : List Step) (h : List Heap.Cell) (r : List Stripe.Rec) (snap : Int) (S : St) : Prop := ∃ b : Int, 0 ≤ b ∧ b < 64 ∧ S.seen b.toNat = true ∧ ¬ ((recAt r b).owner = 0 ∧ (recAt r b).version ≤ snap)
/-- What holds on the way, and at the end, of a try whose part of the model comes to S. -/
def Way (c : List Step) (h : List Heap.Cell) (r : List Stripe.Rec) (snap : Int) (S : St) (t : Try) : Prop :=
  t.snap = snap ∧ (t.kind = 0 → Sim c h t ∧ valT c h t = S) ∧ (t.kind ≠ 0 → t.kind = 5 ∧ StaleAt c h r snap S ∨ t.kind ≠ 5 ∧ Sim c h t ∧ End h t S)
theorem settle_snap (n : Nat) : ∀ (fs : List Frame) (t : Try), (settleF n fs t).snap = t.snap := by
  intro fs
  induction fs with
  | nil => intro t; unfold settleF stop; split <;> rfl
  | cons f fs ih =>
    intro t
    unfold settleF
    split
    · exact ih { t with pc := f.fin, log := (Writes.keepS t.log).1 }
    · unfold stop; split <;> rfl
theorem do_snap (t : Try) (s : Step) (h : List Heap.Cell) (r : List Stripe.Rec) : (doT t s h r).snap = t.snap := by
  unfold doT
  split
  · unfold loadT
    split
    · unfold liveT
      split
      · rfl
      · split
        · rfl
        · split <;> rfl
    · rfl
  split
  · rfl
  split
  · unfold storeT; split <;> rfl
  split
  · unfold skipT; split <;> rfl
  split
  · unfold retryT; split <;> rfl
  split <;> rfl
theorem settled_way {snap : Int} {u : Try} (hp : Pre c u) (hk : u.kind = 0) (hs : Sim c h u) (hv : valT c h u = S) (hn : u.snap = snap) : Way c h r snap S (settle c.length u) := by
  obtain ⟨i1, i2, i3⟩ := settle_val (h := h) u.frames u hp hk hs
  refine ⟨(settle_snap _ _ _).trans hn, fun e => ⟨i1, (i2 e).trans hv⟩, fun e => .inr ?_⟩
  obtain ⟨j1, j2⟩ := i3 e
  have j2' : S = absT h (settle c.length u) 1 := by rw [← hv]; exact j2
  have j1' : (settle c.length u).kind = 1 := j1
  refine ⟨by rw [j1']; decide, i1, ?_⟩
  exact ⟨by rw [j2', j1']; rfl, by rw [j2']; rfl, by rw [j2']; rfl, fun _ => j2'⟩
theorem way_step {snap : Int} (hi : Inv c t) (hw : Way c h r snap S t) (hS : stepS c h r t = (T, true)) : Way c h r snap S T := by
  obtain ⟨n1, n2, n3⟩ := hw
  unfold stepS at hS
  split at hS
  · rename_i s hs
    split at hS
    · rename_i hm
      injection hS with e1 _
      unfold mayB at hm
      rw [Bool.and_eq_true, Bool.and_eq_true, decide_eq_true_eq] at hm
      obtain ⟨hh, hr, hk⟩ := hm
      obtain ⟨hsim, hv⟩ := n2 hk
      obtain ⟨q1, q2⟩ := do_inv hi hk hs hh hr
      have hd := do_snap t s h r
      rw [← e1]
      unfold moveS
      rcases do_val (r := r) hi hk hs hsim with ⟨k0, s1, v1⟩ | ⟨k0, k5, k1, s1, v1⟩ | ⟨k5, _, b0, b6, sn, nf⟩
      · rw [if_pos k0]
        exact settled_way (q1 k0) k0 s1 (v1.trans hv) (hd.trans n1)
      · rw [if_neg k0]
        exact ⟨hd.trans n1, fun e => absurd e k0, fun _ => .inr ⟨k5, s1, hv ▸ v1⟩⟩
      · have k0 : ¬ (doT t s h r).kind = 0 := by rw [k5]; decide
        rw [if_neg k0]
        exact ⟨hd.trans n1, fun e => absurd e k0, fun _ => .inl ⟨k5, s.b, b0, b6, hv ▸ sn, n1 ▸ nf⟩⟩
    · injection hS with _ e2; cases e2
  · injection hS with _ e2; cases e2
theorem first_way {who snap : Int} (hb : begB c who snap = true) (hh : Heap.rightB h = true) : Way c h r snap (Model.part c (Model.s0 h)) (first c who snap) := by
  have hb2 := hb
  unfold begB at hb2
  rw [Bool.and_eq_true, decide_eq_true_eq] at hb2
  obtain ⟨h1, h2, h3, h4⟩ := check_ok c hb2.1
  unfold first
  refine settled_way ⟨hb2.1, rfl, rfl, rfl, rfl, (fun x hx => by cases hx), Nat.le_refl _, Nat.le_refl _, Nat.zero_le _, ?_, ?_, trivial, (fun z hz => by cases hz), Nat.zero_le _, (fun f hf => by cases hf)⟩ rfl ⟨hh, rfl, (fun x hx => by cases hx), fun _ => rfl, (fun f hf => by cases hf)⟩ ?_ rfl
  · show (wellP (seg c 0 c.length)).2 = true
    rw [seg_all]; exact h3
  · show (wellP (seg c 0 c.length)).1 + 0 ≤ 6
    rw [seg_all]; exact h4
  · unfold valT contF
    show Model.part (seg c 0 c.length) _ = _
    rw [seg_all]
    have e : absT h ⟨who, snap, 0, List.replicate 8 0, [], [], ⟨[], []⟩, [], 0, 0⟩ 0 = Model.s0 h := by
      unfold absT csT Model.abs Model.s0
      simp only [Model.St.mk.injEq, true_and, and_true]
      exact ⟨rfl, by funext n; rfl, by funext n; rfl⟩
    rw [e]
/-- A whole run, of one heap and table. -/
theorem run_way {who snap : Int} {k : Nat} (hb : begB c who snap = true) (hh : Heap.rightB h = true) (hR : runS c h r (first c who snap) = (T, k, true)) :
    T.kind = 5 ∧ StaleAt c h r snap (Model.part c (Model.s0 h)) ∨ T.kind ≠ 5 ∧ outT T = Model.outS (Model.part c (Model.s0 h)) ∧ Sim c h T := by
  have hi := first_inv c who snap hb
  have hw := first_way (r := r) hb hh
  have hR2 := hR
  unfold runS at hR2
  split at hR2
  · rename_i h1
    have fin : ∀ t', Inv c t' → Way c h r snap (Model.part c (Model.s0 h)) t' → t'.kind ≠ 0 → t'.kind = 5 ∧ StaleAt c h r snap (Model.part c (Model.s0 h)) ∨ t'.kind ≠ 5 ∧ outT t' = Model.outS (Model.part c (Model.s0 h)) ∧ Sim c h t' := by
      intro t' hi' hw' hk
      rcases hw'.2.2 hk with h2 | ⟨h2, h3, h4⟩
      · exact .inl h2
      · exact .inr ⟨h2, out_try hi' h3 h4, h3⟩
    rcases run_ind (P := Way c h r snap (Model.part c (Model.s0 h))) (fun t T hi hp hS => way_step hi hp hS) (c.length + 1) _ 0 hi hw (.inl (Nat.le_add_right _ _)) h1 with ⟨a, b, d, _⟩ | ⟨a, b⟩
    · rw [hR2] at a b d
      exact fin T b a d
    · rw [b] at hR2
      injection hR2 with e1 _
      rw [← e1]
      exact fin _ hi hw a
  · injection hR2 with _ e2
    injection e2 with _ e3
    cases e3
end
end Go.Proofs.YtadofonlkjkcmaaGreat.Attempt
