/-
  PLAIN LEMMAS: what the laws ask of what a run comes to. No conditions beyond those that each theorem states. Nothing of the program is named here.
-/
import Derived.Test.YtlmkhnjdifamgaaModelA
namespace Go.Proofs.Ytlmkhnjdifamgaa.Model
open Go.ChangeShapes Go.WideShapes Go.ChangeAt Go.RowKit Mem Go.Proofs.Ytlmkhnjdifamgaa.Code

theorem run_ok (c : List Step) (h : List Heap.Cell) (ho : okR c h = true) : runS c h = (outS (part c (s0 h)), if (part c (s0 h)).kind = 1 then (part c (s0 h)).h else h, true) := by unfold runS; rw [if_pos ho]
theorem run_bad (c : List Step) (h : List Heap.Cell) (ho : okR c h = false) : runS c h = (⟨0, 0, [], [], [], []⟩, h, false) := by unfold runS; rw [ho]; rfl
theorem run_flag (c : List Step) (h : List Heap.Cell) : (runS c h).2.2 = okR c h := by unfold runS; cases okR c h <;> rfl
theorem out_kind (s : St) : (outS s).kind = s.kind := by unfold outS; split <;> rfl
theorem out_why (s : St) : (outS s).why = s.why := by unfold outS; split <;> rfl
theorem out_seen (s : St) : (outS s).seen = pick s.seen 64 := by unfold outS; split <;> rfl
theorem out_path (s : St) : (outS s).path = if s.kind = 1 then s.path else [] := by unfold outS; split <;> rfl
theorem out_regs (s : St) : (outS s).regs = if s.kind = 1 then s.regs else [] := by unfold outS; split <;> rfl
theorem out_writes (s : St) : (outS s).writes = if s.kind = 1 then writesS s else [] := by unfold outS; split <;> rfl
theorem pick_sub (p q : Nat → Bool) (h : ∀ n, p n = true → q n = true) (n : Nat) : (pick p n).length ≤ (pick q n).length ∧ ∀ z ∈ pick p n, z ∈ pick q n := by
  constructor
  · induction n with
    | zero => exact Nat.le_refl _
    | succ n ih =>
      cases hp : p n with
      | true => rw [pick_yes p n hp, pick_yes q n (h n hp)]; simp; exact ih
      | false =>
        rw [pick_no p n hp]
        cases hq : q n with
        | true => rw [pick_yes q n hq]; simp; omega
        | false => rw [pick_no q n hq]; exact ih
  · intro z hz
    obtain ⟨k, hk, hpk, rfl⟩ := (pick_mem p n z).1 hz
    exact (pick_mem q n _).2 ⟨k, hk, h k hpk, rfl⟩
/-- What a run of an Either comes to, beside a run of the part that it is. -/
structure AsPart (o x : Out) (g gx : List Heap.Cell) (way : Int) : Prop where
  kind : o.kind = x.kind
  why : o.why = x.why
  heap : g = gx
  seen : x.seen.length ≤ o.seen.length
  one : o.kind = 1 → o.path = way :: x.path
  none_ : o.kind ≠ 1 → o.path = [] ∧ x.path = []
theorem either_facts (a b : List Step) (h : List Heap.Cell) (ho : okR (eitherL a b) h = true) :
    okR a h = true ∧ okR b h = true ∧
    ((runS a h).1.kind ≠ 2 ∧ AsPart (runS (eitherL a b) h).1 (runS a h).1 (runS (eitherL a b) h).2.1 (runS a h).2.1 1 ∨
     (runS a h).1.kind = 2 ∧ AsPart (runS (eitherL a b) h).1 (runS b h).1 (runS (eitherL a b) h).2.1 (runS b h).2.1 2 ∧ ∀ z ∈ (runS a h).1.seen, z ∈ (runS (eitherL a b) h).1.seen) := by
  have h1 := ho
  unfold okR at h1
  rw [Bool.and_eq_true, decide_eq_true_eq] at h1
  obtain ⟨ha, hb⟩ := either_codes a b h1.1
  have oa : okR a h = true := by unfold okR; rw [ha, h1.2]; rfl
  have ob : okR b h = true := by unfold okR; rw [hb, h1.2]; rfl
  refine ⟨oa, ob, ?_⟩
  rw [run_ok _ _ ho, run_ok _ _ oa, run_ok _ _ ob]
  simp only [out_kind]
  obtain ⟨w, way, f, hw, hl, hk, hy⟩ := either_like a b h
  have hseen : ∀ n, (part w (s0 h)).seen n = true → (part (eitherL a b) (s0 h)).seen n = true := by
    obtain ⟨_, D, hD⟩ := hl.more rfl
    intro n hn
    rw [(hD n).2] at hn
    rw [(hD n).1]
    simp at hn
    simp [hn]
  have has : AsPart (outS (part (eitherL a b) (s0 h))) (outS (part w (s0 h))) (if (part (eitherL a b) (s0 h)).kind = 1 then (part (eitherL a b) (s0 h)).h else h) (if (part w (s0 h)).kind = 1 then (part w (s0 h)).h else h) way := by
    refine ⟨by rw [out_kind, out_kind, hk], by rw [out_why, out_why, hy], by rw [hk, hl.h], ?_, ?_, ?_⟩
    · rw [out_seen, out_seen]; exact (pick_sub _ _ hseen 64).1
    · intro e
      rw [out_kind] at e
      rw [out_path, out_path, if_pos e, if_pos (hk ▸ e)]
      obtain ⟨q, q1, q2⟩ := hl.path
      rw [q1, q2]; rfl
    · intro e
      rw [out_kind] at e
      rw [out_path, out_path, if_neg e, if_neg (hk ▸ e)]
      exact ⟨rfl, rfl⟩
  rcases hw with ⟨k2, rfl, rfl, -⟩ | ⟨k2, rfl, rfl, hf⟩
  · exact .inl ⟨k2, has⟩
  · refine .inr ⟨k2, has, ?_⟩
    rw [out_seen, out_seen]
    refine (pick_sub _ _ ?_ 64).2
    obtain ⟨_, D, hD⟩ := hl.more rfl
    intro n hn
    rw [(hD n).1, hf n, hn]
    rfl
/-- What a run of two codes comes to, beside the runs of each. -/
theorem two_facts (a b : List Step) (h : List Heap.Cell) (ho : okR (a ++ (zeros ++ b)) h = true) (ha : okR a h = true) :
    ((runS a h).1.kind ≠ 1 ∧ (runS (a ++ (zeros ++ b)) h).1 = (runS a h).1 ∧ (runS (a ++ (zeros ++ b)) h).2.1 = h) ∨
    ((runS a h).1.kind = 1 ∧ okR b (runS a h).2.1 = true ∧ (runS (a ++ (zeros ++ b)) h).1.kind = (runS b (runS a h).2.1).1.kind ∧ (runS (a ++ (zeros ++ b)) h).1.why = (runS b (runS a h).2.1).1.why ∧
      ((runS b (runS a h).2.1).1.kind ≠ 1 → (runS (a ++ (zeros ++ b)) h).2.1 = h) ∧
      ((runS b (runS a h).2.1).1.kind = 1 → (runS (a ++ (zeros ++ b)) h).2.1 = (runS b (runS a h).2.1).2.1 ∧ (runS (a ++ (zeros ++ b)) h).1.path.length = (runS a h).1.path.length + (runS b (runS a h).2.1).1.path.length)) := by
  have h1 := ho
  have h2 := ha
  unfold okR at h1 h2
  rw [Bool.and_eq_true, decide_eq_true_eq] at h1 h2
  have hb := two_codes a b h1.1 h2.1
  rw [run_ok _ _ ho, run_ok _ _ ha]
  simp only [out_kind]
  rcases two_end a b h h2.1 h1.2 with ⟨k1, e⟩ | ⟨k1, hr, hl, hk, hy⟩
  · refine .inl ⟨k1, by rw [e], by rw [e, if_neg k1]⟩
  · refine .inr ⟨k1, ?_⟩
    rw [if_pos k1]
    have ob : okR b (part a (s0 h)).h = true := by unfold okR; rw [hb, hr]; rfl
    rw [run_ok _ _ ob]
    simp only [out_kind, out_why]
    refine ⟨ob, hk, hy, fun e => by rw [if_neg (hk ▸ e)], fun e => ⟨by rw [if_pos e, if_pos (hk ▸ e), hl.h], ?_⟩⟩
    rw [out_path, out_path, out_path, if_pos e, if_pos (hk ▸ e), if_pos k1]
    obtain ⟨q, q1, q2⟩ := hl.path
    rw [q1, q2, List.length_append]
    rfl
end Go.Proofs.Ytlmkhnjdifamgaa.Model
