/-
  PLAIN LEMMAS ON TRIES: where somebody holds all records; where nobody holds anything, and no version is above a try's own. No conditions beyond those that each theorem states.
-/
import Derived.Test.YtadofonlkjkcmaaGreatAttemptSim2
import Derived.Test.YtadofonlkjkcmaaGreatAttemptReading
namespace Go.Proofs.YtadofonlkjkcmaaGreat.Attempt
open Mem Go.Proofs.YtadofonlkjkcmaaGreat.Code
open Model (St CS)

theorem held_rec (q : Nat) (hq : 0 < q) (ow : Int) (b : Int) : recAt (List.replicate q ⟨0, ow⟩) b = ⟨0, ow⟩ := by
  obtain ⟨j, x, h1, h2, h3⟩ := Reads.place_of (List.replicate q (⟨0, ow⟩ : Stripe.Rec)) q (List.length_replicate ..) hq b
  have h4 := List.eq_of_mem_replicate (List.mem_of_getElem? h3)
  unfold recAt
  rw [List.length_replicate, h1, Int.toNat_natCast, h3, h4]
  rfl
section
variable {c : List Step} {h : List Heap.Cell} {T : Try} {r : List Stripe.Rec} {who snap : Int} {k : Nat} {o : Model.Out} {g : List Heap.Cell}
theorem begin_is {t0 : Try} (hB : beginS c who snap = (t0, true)) : begB c who snap = true ∧ t0 = first c who snap := by
  unfold beginS at hB
  split at hB
  · rename_i hb; injection hB with e _; exact ⟨hb, e.symm⟩
  · injection hB with _ e; cases e
theorem begin_not {t0 : Try} (hB : beginS c who snap = (t0, false)) : t0 = none_ := by
  unfold beginS at hB
  split at hB
  · injection hB with _ e; cases e
  · injection hB with e _; exact e.symm
theorem model_is (hM : Model.runS c h = (o, g, true)) : Heap.rightB h = true ∧ o = Model.outS (Model.part c (Model.s0 h)) := by
  unfold Model.runS at hM
  split at hM
  · rename_i hk
    unfold Model.okR at hk
    rw [Bool.and_eq_true] at hk
    injection hM with e _
    exact ⟨hk.2, e.symm⟩
  · injection hM with _ e; injection e with _ e; cases e
theorem seen_outS (S : St) : (Model.outS S).seen = pick S.seen 64 := by
  unfold Model.outS; split <;> rfl
theorem held_end {t0 : Try} (hB : beginS c who snap = (t0, true)) (hr : ∀ b, (recAt r b).owner ≠ 0) (hR : runS c h r t0 = (T, k, true)) (hM : Model.runS c h = (o, g, true)) :
    T.reads = [] ∧ (T.kind = 5 → 0 < o.seen.length) ∧ (T.kind ≠ 5 → outT T = o ∧ o.seen = []) := by
  obtain ⟨hb, rfl⟩ := begin_is hB
  obtain ⟨hh, ho⟩ := model_is hM
  have hi := first_inv c who snap hb
  have h0 : (first c who snap).reads = [] := by unfold first settle; exact (settle_same c.length [] _).1
  have hreads : T.reads = [] := by
    have hR2 := hR
    unfold runS at hR2
    split at hR2
    · rename_i h1
      rcases run_ind (P := fun t => t.reads = []) (fun t T hi hp hS => by
        rcases (step_reading hS).2 with e | ⟨x, _, _, _, e⟩
        · rw [e]; exact hp
        · exact absurd (by rw [e]) (hr x.cell)) (c.length + 1) _ 0 hi h0 (.inl (Nat.le_add_right _ _)) h1 with ⟨a, _⟩ | ⟨_, b⟩
      · rw [hR2] at a; exact a
      · rw [b] at hR2; injection hR2 with e1 _; rw [← e1]; exact h0
    · injection hR2 with _ e2; injection e2 with _ e3; cases e3
  have hcells : (outT T).seen = [] := by
    have : (outT T).seen = Reads.cellsS T.reads := by unfold outT; split <;> rfl
    rw [this, hreads]
    have hl : (Reads.cellsS []).length = 0 := by
      unfold Reads.cellsS
      split
      · rw [Reads.sort_len]; rfl
      · rfl
    exact List.eq_nil_of_length_eq_zero hl
  refine ⟨hreads, fun h5 => ?_, fun h5 => ?_⟩
  · rcases run_way hb hh hR with ⟨_, b, b0, b6, hs, _⟩ | ⟨n5, _⟩
    · rw [ho, seen_outS]
      have : (b.toNat : Int) ∈ pick (Model.part c (Model.s0 h)).seen 64 := (pick_mem _ _ _).2 ⟨b.toNat, by omega, hs, rfl⟩
      exact List.length_pos_of_mem this
    · exact absurd h5 n5
  · rcases run_way hb hh hR with ⟨e5, _⟩ | ⟨_, e, _⟩
    · exact absurd e5 h5
    · rw [← ho] at e
      exact ⟨e, by rw [← e]; exact hcells⟩
theorem alone_end {t0 : Try} (hB : beginS c who snap = (t0, true)) (hr : ∀ b, (recAt r b).owner = 0 ∧ (recAt r b).version ≤ snap) (hR : runS c h r t0 = (T, k, true)) (hM : Model.runS c h = (o, g, true)) :
    k ≤ c.length ∧ outT T = o ∧ Reads.sameS T.reads h = true := by
  obtain ⟨hb, rfl⟩ := begin_is hB
  obtain ⟨hh, ho⟩ := model_is hM
  obtain ⟨hi, hk⟩ := run_inv (first_inv c who snap hb) hR
  rcases run_way hb hh hR with ⟨_, b, _, _, _, hn⟩ | ⟨_, e, hs⟩
  · exact absurd (hr b) hn
  · refine ⟨(hk rfl).2, e.trans ho.symm, ?_⟩
    unfold Reads.sameS
    rw [hi.right, hs.heap]
    refine List.all_eq_true.2 fun x hx => ?_
    obtain ⟨h1, h2⟩ := hs.rds x hx
    unfold Reads.stillB
    rw [h1, h2]; simp
theorem alone_rec (l : List Int) (snap : Int) (h0 : 0 ≤ snap) (hl : ∀ v ∈ l, v ≤ snap) (b : Int) : (recAt (l.map fun v => ⟨v, 0⟩) b).owner = 0 ∧ (recAt (l.map fun v => ⟨v, 0⟩) b).version ≤ snap := by
  unfold recAt
  cases hx : (l.map fun v => (⟨v, 0⟩ : Stripe.Rec))[(b % ((l.map fun v => (⟨v, 0⟩ : Stripe.Rec)).length : Int)).toNat]? with
  | none => exact ⟨rfl, h0⟩
  | some x =>
    obtain ⟨v, hv, rfl⟩ := List.mem_map.1 (List.mem_of_getElem? hx)
    exact ⟨rfl, hl v hv⟩
end
end Go.Proofs.YtadofonlkjkcmaaGreat.Attempt
