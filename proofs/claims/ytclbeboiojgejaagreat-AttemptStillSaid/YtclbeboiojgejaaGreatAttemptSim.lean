/-
  PLAIN LEMMAS ON TRIES: what a try stands for, as a run of the model; its frames are the parts around. No conditions beyond those that each theorem states. Nothing of the program is named here.
-/
import Derived.Test.YtclbeboiojgejaaGreatAttE
import Derived.Test.YtclbeboiojgejaaGreatModelA
namespace Go.Proofs.YtclbeboiojgejaaGreat.Attempt
open Mem Go.Proofs.YtclbeboiojgejaaGreat.Code
open Model (St CS)

/-- A try, and a heap that it has met alone. -/
structure Sim (c : List Step) (h : List Heap.Cell) (t : Try) : Prop where
  heap : Heap.rightB h = true
  live : t.log.list.all (fun w => Heap.liveAt h w.cell) = true
  rds : ∀ x ∈ t.reads, Heap.liveAt h x.cell = true ∧ x.value = Heap.valAt h x.cell
  why : t.kind = 0 → t.why = 0
  inner : ∀ f ∈ t.frames, (wellP (seg c f.mid f.fin)).2 = true
section
variable {c : List Step} {h : List Heap.Cell} {t u : Try} {s : Step} {r : List Stripe.Rec}
theorem Sim.end_ (hs : Sim c h t) (k w : Int) (hk : k ≠ 0) : Sim c h (ended t k w) := ⟨hs.heap, hs.live, hs.rds, fun e => absurd e hk, hs.inner⟩
theorem Sim.go_ (hs : Sim c h t) (hk : t.kind = 0) (uw : u.why = t.why) (uf : u.frames = t.frames) (ul : u.log.list.all (fun w => Heap.liveAt h w.cell) = true) (ur : ∀ x ∈ u.reads, Heap.liveAt h x.cell = true ∧ x.value = Heap.valAt h x.cell) : Sim c h u :=
  ⟨hs.heap, ul, ur, fun _ => uw.trans (hs.why hk), by rw [uf]; exact hs.inner⟩
end
end Go.Proofs.YtclbeboiojgejaaGreat.Attempt
