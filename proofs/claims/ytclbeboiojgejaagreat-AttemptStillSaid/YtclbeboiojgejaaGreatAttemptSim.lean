/-
 PLAIN LEMMAS ON TRIES: what a try stands for, as a run of the model; its frames are the parts around. No conditions beyond those that each theorem states. Nothing of the program is named here.
-/
import Derived.Test.YtclbeboiojgejaaGreatAttE
import Derived.Test.YtclbeboiojgejaaGreatModelA
namespace Go.Proofs.YtclbeboiojgejaaGreat.Attempt
open Mem Go.Proofs.YtclbeboiojgejaaGreat.Code
open Model (St CS)

def csT (t : Try) : CS := ⟨t.regs, t.path, t.log.list, t.reads.map Reads.Read.cell, t.why⟩
def absT (h : List Heap.Cell) (t : Try) (k : Int) : St := Model.abs h (csT t) k
/-- What the second part begins with. -/
def entry (h : List Heap.Cell) (path : List Int) (ws : List Heap.Write) (f : Frame) (m : Int) : St := Model.abs h ⟨f.regs, path.take f.long, ws.take m.toNat, [], 0⟩ 0
def secondF (c : List Step) (h : List Heap.Cell) (path : List Int) (ws : List Heap.Write) (f : Frame) (m : Int) (s : St) : St :=
 if s.kind = 2 then Model.part (seg c f.mid f.fin) (Model.saw (Model.onPath (entry h path ws f m) 2) s.seen) else s
def restF (c : List Step) (i j : Nat) (r : St) : St := if r.kind = 1 then Model.part (seg c i j) r else r
/-- What becomes of a part's end, in the parts around. -/
def contF (c : List Step) (h : List Heap.Cell) (path : List Int) (ws : List Heap.Write) : List Frame → List Int → St → St
 | [], _, s => s
 | f :: fs, ms, s => contF c h path ws fs ms.tail (restF c f.fin (lim c.length fs) (secondF c h path ws f (ms.headD 0) s))
/-- What becomes of a try. -/
def valT (c : List Step) (h : List Heap.Cell) (t : Try) : St :=
 contF c h t.path t.log.list t.frames t.log.marks.reverse (Model.part (seg c t.pc (lim c.length t.frames)) (absT h t 0))
/-- A try, and a heap that it has met alone. -/
structure Sim (c : List Step) (h : List Heap.Cell) (t : Try) : Prop where
 heap : Heap.rightB h = true
 live : t.log.list.all (fun w => Heap.liveAt h w.cell) = true
 rds : ∀ x ∈ t.reads, Heap.liveAt h x.cell = true ∧ x.value = Heap.valAt h x.cell
 why : t.kind = 0 → t.why = 0
 inner : ∀ f ∈ t.frames, (wellP (seg c f.mid f.fin)).2 = true
theorem live_64 {h : List Heap.Cell} (hr : Heap.rightB h = true) {b : Int} (hl : Heap.liveAt h b = true) : 0 ≤ b ∧ b < 64 := by
 obtain ⟨h0, h1, _⟩ := Heap.live_in h b hl
 have := Heap.right_len h hr
 omega
section
variable {c : List Step} {h : List Heap.Cell} {t u : Try} {s : Step} {r : List Stripe.Rec}
theorem good_of (hs : Sim c h t) (hl : Writes.rightB t.log = true) (h8 : t.regs.length = 8) (hp : t.path.length ≤ 24) (hrd : t.reads.length ≤ 24) : Model.Good h (csT t) 0 := by
 have hw := (Writes.right_parts t.log).1 hl
 refine ⟨hs.heap, hs.live, ?_, hw.1, h8, hp, by show (t.reads.map _).length + 0 ≤ 24; rw [List.length_map]; exact hrd, ?_⟩
 · refine List.all_eq_true.2 fun x hx => ?_
  have := List.all_eq_true.1 hw.2.1 x hx
  unfold Writes.oneB at this
  rw [Bool.and_eq_true] at this
  exact this.2
 · intro z hz
  obtain ⟨x, hx, rfl⟩ := List.mem_map.1 hz
  exact live_64 hs.heap (hs.rds x hx).1
theorem Inv.good (hi : Inv c t) (hs : Sim c h t) : Model.Good h (csT t) 0 := by
 have h1 := hi.len
 have h2 := hi.top
 have h3 := hi.plen
 have h4 := hi.rlen
 have h5 := eithers_le (c.take t.pc)
 rw [List.length_take] at h5
 exact good_of hs hi.log hi.regs (by omega) (by omega)
/-- What a try that has ended has come to. -/
structure End (h : List Heap.Cell) (t : Try) (s : St) : Prop where
 kind : s.kind = t.kind
 why : s.why = t.why
 seen : s.seen = (absT h t 0).seen
 done : t.kind = 1 → s = absT h t 1
/-- What becomes of a step: it goes on, or it has ended, or it is stale. -/
inductive Does (c : List Step) (h : List Heap.Cell) (r : List Stripe.Rec) (t : Try) (s : Step) (u : Try) : Prop where
 | on : u.kind = 0 → Sim c h u → valT c h u = valT c h t → Does c h r t s u
 | ends : u.kind ≠ 0 → u.kind ≠ 5 → u.kind ≠ 1 → Sim c h u → End h u (valT c h t) → Does c h r t s u
 | stale : u.kind = 5 → u.reads = t.reads → 0 ≤ s.b → s.b < 64 → (valT c h t).seen s.b.toNat = true → ¬ ((recAt r s.b).owner = 0 ∧ (recAt r s.b).version ≤ t.snap) → Does c h r t s u
theorem Sim.end_ (hs : Sim c h t) (k w : Int) (hk : k ≠ 0) : Sim c h (ended t k w) := ⟨hs.heap, hs.live, hs.rds, fun e => absurd e hk, hs.inner⟩
theorem Sim.go_ (hs : Sim c h t) (hk : t.kind = 0) (uw : u.why = t.why) (uf : u.frames = t.frames) (ul : u.log.list.all (fun w => Heap.liveAt h w.cell) = true) (ur : ∀ x ∈ u.reads, Heap.liveAt h x.cell = true ∧ x.value = Heap.valAt h x.cell) : Sim c h u :=
 ⟨hs.heap, ul, ur, fun _ => uw.trans (hs.why hk), by rw [uf]; exact hs.inner⟩
end
end Go.Proofs.YtclbeboiojgejaaGreat.Attempt
