/-
  No cell of these rows narrows 'for every input' (looked for: loops, veiled, ifaces, maps, wideKeys, modest, calm, conditions, laid).
  DERIVED. THE GIVEN ROWS OF THIS SEAT. 6 by the template 'for every input the law returns true; each argument reads behind the call as it read before'; 0 by the template 'total and deterministic' (their statements: YtclbeboiojgejaaGreatTotals.lean).
  GIVEN WITH THE SEED: the statements are not yours to turn. If you find one false, say at which input.
  Laid BY PROGRAM, IN A SANDBOX (cutbox-rows.mjs): the forced cells as the released guide's own fill.sh prints them over the translation 9f1c91300dfc0de7… (all of the seat's roots in one cut). By AI agents, Wed Nov 11 2026. No macro, syntax, notation, axiom, sorry.
-/
import Derived.Test.YtclbeboiojgejaaGreatChecked
import GoSem.Claim
import GoSem.ClaimJoined
import GoSem.ClaimMapViews
import Derived.JoinedTies
import Derived.KernelRfl
namespace Go.Proofs.YtclbeboiojgejaaGreat
/- THE CELL 'sum', in the pinned program and in every row, IS THE sha256 OF THE DUMP (.gsa) THAT YtclbeboiojgejaaGreatProg.lean LOADS. Nothing in Lean hashes anything: it is a label: what it is worth is what the hold of that sum in a sandbox is worth. -/
noncomputable def Tryz.pinned : Pinned := { name := "ytclbeboiojgejaagreat", sum := "9f1c91300dfc0de74e8ee01f3b56643d5145967b7f98083473c969ab516a4318", checked := Tryz.checked }
namespace Rows
def none {H : Type} : Left H := { results := [], args := [] }

/-- 'handshakerlaw11.AttemptTells': WHATEVER THE INPUT: true; the input reads as it did. -/
def attemptTellsSpec : ChangeSpec := { name := "attemptTells", fn := fun _ => fun
  | [d1, d2, d3, d4] => { results := [.lit (.bool true)], args := [d1, d2, d3, d4] }
  | _ => none }
def attemptTellsRow : OpenClaim := { program := "ytclbeboiojgejaagreat", sum := "9f1c91300dfc0de74e8ee01f3b56643d5145967b7f98083473c969ab516a4318", func := "handshaker/handshakerlaw11.AttemptTells", spec := "attemptTells", inPlace := ["slices.overlaps[handshaker/api.Write]"], unfollowed := true, recurses := true, apart := false }
def AttemptTellsSaid : Prop := attemptTellsRow.holds Tryz.pinned (OpenSpec.ofChange attemptTellsSpec)

/-- ITS FALSE NEIGHBOUR: 'it returns false'. Refute it at one input. -/
def attemptTellsWrong : ChangeSpec := { name := "attemptTells", fn := fun _ => fun
  | [d1, d2, d3, d4] => { results := [.lit (.bool false)], args := [d1, d2, d3, d4] }
  | _ => none }
def AttemptTellsWrongFalsely : Prop := attemptTellsRow.holds Tryz.pinned (OpenSpec.ofChange attemptTellsWrong)

/-- 'handshakerlaw11.AttemptAlone': WHATEVER THE INPUT: true; the input reads as it did. -/
def attemptAloneSpec : ChangeSpec := { name := "attemptAlone", fn := fun _ => fun
  | [d1, d2, d3, d4, d5] => { results := [.lit (.bool true)], args := [d1, d2, d3, d4, d5] }
  | _ => none }
def attemptAloneRow : OpenClaim := { program := "ytclbeboiojgejaagreat", sum := "9f1c91300dfc0de74e8ee01f3b56643d5145967b7f98083473c969ab516a4318", func := "handshaker/handshakerlaw11.AttemptAlone", spec := "attemptAlone", inPlace := ["slices.overlaps[handshaker/api.Write]"], unfollowed := true, recurses := true, apart := false }
def AttemptAloneSaid : Prop := attemptAloneRow.holds Tryz.pinned (OpenSpec.ofChange attemptAloneSpec)

/-- ITS FALSE NEIGHBOUR: 'it returns false'. Refute it at one input. -/
def attemptAloneWrong : ChangeSpec := { name := "attemptAlone", fn := fun _ => fun
  | [d1, d2, d3, d4, d5] => { results := [.lit (.bool false)], args := [d1, d2, d3, d4, d5] }
  | _ => none }
def AttemptAloneWrongFalsely : Prop := attemptAloneRow.holds Tryz.pinned (OpenSpec.ofChange attemptAloneWrong)

/-- 'handshakerlaw11.AttemptReads': WHATEVER THE INPUT: true; the input reads as it did. -/
def attemptReadsSpec : ChangeSpec := { name := "attemptReads", fn := fun _ => fun
  | [d1, d2, d3, d4] => { results := [.lit (.bool true)], args := [d1, d2, d3, d4] }
  | _ => none }
def attemptReadsRow : OpenClaim := { program := "ytclbeboiojgejaagreat", sum := "9f1c91300dfc0de74e8ee01f3b56643d5145967b7f98083473c969ab516a4318", func := "handshaker/handshakerlaw11.AttemptReads", spec := "attemptReads", inPlace := ["slices.overlaps[handshaker/api.Write]"], unfollowed := true, recurses := true, apart := false }
def AttemptReadsSaid : Prop := attemptReadsRow.holds Tryz.pinned (OpenSpec.ofChange attemptReadsSpec)

/-- ITS FALSE NEIGHBOUR: 'it returns false'. Refute it at one input. -/
def attemptReadsWrong : ChangeSpec := { name := "attemptReads", fn := fun _ => fun
  | [d1, d2, d3, d4] => { results := [.lit (.bool false)], args := [d1, d2, d3, d4] }
  | _ => none }
def AttemptReadsWrongFalsely : Prop := attemptReadsRow.holds Tryz.pinned (OpenSpec.ofChange attemptReadsWrong)

/-- 'handshakerlaw11.AttemptStill': WHATEVER THE INPUT: true; the input reads as it did. -/
def attemptStillSpec : ChangeSpec := { name := "attemptStill", fn := fun _ => fun
  | [d1, d2, d3, d4, d5] => { results := [.lit (.bool true)], args := [d1, d2, d3, d4, d5] }
  | _ => none }
def attemptStillRow : OpenClaim := { program := "ytclbeboiojgejaagreat", sum := "9f1c91300dfc0de74e8ee01f3b56643d5145967b7f98083473c969ab516a4318", func := "handshaker/handshakerlaw11.AttemptStill", spec := "attemptStill", inPlace := ["slices.overlaps[handshaker/api.Write]"], unfollowed := true, recurses := true, apart := false }
def AttemptStillSaid : Prop := attemptStillRow.holds Tryz.pinned (OpenSpec.ofChange attemptStillSpec)

/-- ITS FALSE NEIGHBOUR: 'it returns false'. Refute it at one input. -/
def attemptStillWrong : ChangeSpec := { name := "attemptStill", fn := fun _ => fun
  | [d1, d2, d3, d4, d5] => { results := [.lit (.bool false)], args := [d1, d2, d3, d4, d5] }
  | _ => none }
def AttemptStillWrongFalsely : Prop := attemptStillRow.holds Tryz.pinned (OpenSpec.ofChange attemptStillWrong)

/-- 'handshakerlaw11.AttemptHeld': WHATEVER THE INPUT: true; the input reads as it did. -/
def attemptHeldSpec : ChangeSpec := { name := "attemptHeld", fn := fun _ => fun
  | [d1, d2, d3, d4, d5] => { results := [.lit (.bool true)], args := [d1, d2, d3, d4, d5] }
  | _ => none }
def attemptHeldRow : OpenClaim := { program := "ytclbeboiojgejaagreat", sum := "9f1c91300dfc0de74e8ee01f3b56643d5145967b7f98083473c969ab516a4318", func := "handshaker/handshakerlaw11.AttemptHeld", spec := "attemptHeld", inPlace := ["slices.overlaps[handshaker/api.Write]"], unfollowed := true, recurses := true, apart := false }
def AttemptHeldSaid : Prop := attemptHeldRow.holds Tryz.pinned (OpenSpec.ofChange attemptHeldSpec)

/-- ITS FALSE NEIGHBOUR: 'it returns false'. Refute it at one input. -/
def attemptHeldWrong : ChangeSpec := { name := "attemptHeld", fn := fun _ => fun
  | [d1, d2, d3, d4, d5] => { results := [.lit (.bool false)], args := [d1, d2, d3, d4, d5] }
  | _ => none }
def AttemptHeldWrongFalsely : Prop := attemptHeldRow.holds Tryz.pinned (OpenSpec.ofChange attemptHeldWrong)

/-- 'handshakerlaw11.AttemptPath': WHATEVER THE INPUT: true; the input reads as it did. -/
def attemptPathSpec : ChangeSpec := { name := "attemptPath", fn := fun _ => fun
  | [d1, d2, d3, d4] => { results := [.lit (.bool true)], args := [d1, d2, d3, d4] }
  | _ => none }
def attemptPathRow : OpenClaim := { program := "ytclbeboiojgejaagreat", sum := "9f1c91300dfc0de74e8ee01f3b56643d5145967b7f98083473c969ab516a4318", func := "handshaker/handshakerlaw11.AttemptPath", spec := "attemptPath", inPlace := ["slices.overlaps[handshaker/api.Write]"], unfollowed := true, recurses := true, apart := false }
def AttemptPathSaid : Prop := attemptPathRow.holds Tryz.pinned (OpenSpec.ofChange attemptPathSpec)

/-- ITS FALSE NEIGHBOUR: 'it returns false'. Refute it at one input. -/
def attemptPathWrong : ChangeSpec := { name := "attemptPath", fn := fun _ => fun
  | [d1, d2, d3, d4] => { results := [.lit (.bool false)], args := [d1, d2, d3, d4] }
  | _ => none }
def AttemptPathWrongFalsely : Prop := attemptPathRow.holds Tryz.pinned (OpenSpec.ofChange attemptPathWrong)

/- THE SECOND FORM. 'bulk': how many values and letters a reading holds, each counted each time it is reached (what is shared counts as often as it is met; a slice's spare places count too). A statement '..UptoSaid' is the law's where the arguments, and the package variables that the reading takes, are together of bulk at most 1048576: NARROWER than '..Said'. Prove '..Said' where nothing that the law and all that it calls make is longer than what came in: it says more and counts as full. Else prove '..UptoSaid'. A law counts once. -/
mutual
def uptoBulk {H : Type} : DataW H → Nat
  | .lit (.string bytes) => bytes.length + 1
  | .lit _ => 1
  | .nil => 1
  | .ptr d => uptoBulk d + 1
  | .slice elems spare => uptoBulkAll elems + uptoBulkAll spare + 1
  | .agg parts => uptoBulkAll parts + 1
  | .iface _ d => uptoBulk d + 1
  | .map entries => uptoBulkEntries entries + 1
  | .held _ => 1
def uptoBulkAll {H : Type} : List (DataW H) → Nat
  | [] => 0
  | d :: r => uptoBulk d + uptoBulkAll r
def uptoBulkEntries {H : Type} : List (Lit × DataW H) → Nat
  | [] => 0
  | x :: r => uptoBulkEntry x + uptoBulkEntries r
def uptoBulkEntry {H : Type} : Lit × DataW H → Nat
  | (.string bytes, d) => bytes.length + uptoBulk d + 1
  | (_, d) => uptoBulk d + 1
 end
def uptoSmall : (H : Type) → List (DataW H) → Bool := fun _ ds => decide (uptoBulkAll ds ≤ 1048576)
def OpenSpec.upto (s : _root_.Go.ChangeSpec) : _root_.Go.OpenSpec := { _root_.Go.OpenSpec.ofChange s with cond := some uptoSmall }

/-- 'handshakerlaw11.AttemptTells', WHERE WHAT IT READS IS OF BULK AT MOST 1048576: true; the input reads as it did. -/
def attemptTellsUptoRow : OpenClaim := { program := "ytclbeboiojgejaagreat", sum := "9f1c91300dfc0de74e8ee01f3b56643d5145967b7f98083473c969ab516a4318", func := "handshaker/handshakerlaw11.AttemptTells", spec := "attemptTells", inPlace := ["slices.overlaps[handshaker/api.Write]"], unfollowed := true, recurses := true, apart := false, narrowed := true }
def AttemptTellsUptoSaid : Prop := attemptTellsUptoRow.holds Tryz.pinned (OpenSpec.upto attemptTellsSpec)

/-- 'handshakerlaw11.AttemptAlone', WHERE WHAT IT READS IS OF BULK AT MOST 1048576: true; the input reads as it did. -/
def attemptAloneUptoRow : OpenClaim := { program := "ytclbeboiojgejaagreat", sum := "9f1c91300dfc0de74e8ee01f3b56643d5145967b7f98083473c969ab516a4318", func := "handshaker/handshakerlaw11.AttemptAlone", spec := "attemptAlone", inPlace := ["slices.overlaps[handshaker/api.Write]"], unfollowed := true, recurses := true, apart := false, narrowed := true }
def AttemptAloneUptoSaid : Prop := attemptAloneUptoRow.holds Tryz.pinned (OpenSpec.upto attemptAloneSpec)

/-- 'handshakerlaw11.AttemptReads', WHERE WHAT IT READS IS OF BULK AT MOST 1048576: true; the input reads as it did. -/
def attemptReadsUptoRow : OpenClaim := { program := "ytclbeboiojgejaagreat", sum := "9f1c91300dfc0de74e8ee01f3b56643d5145967b7f98083473c969ab516a4318", func := "handshaker/handshakerlaw11.AttemptReads", spec := "attemptReads", inPlace := ["slices.overlaps[handshaker/api.Write]"], unfollowed := true, recurses := true, apart := false, narrowed := true }
def AttemptReadsUptoSaid : Prop := attemptReadsUptoRow.holds Tryz.pinned (OpenSpec.upto attemptReadsSpec)

/-- 'handshakerlaw11.AttemptStill', WHERE WHAT IT READS IS OF BULK AT MOST 1048576: true; the input reads as it did. -/
def attemptStillUptoRow : OpenClaim := { program := "ytclbeboiojgejaagreat", sum := "9f1c91300dfc0de74e8ee01f3b56643d5145967b7f98083473c969ab516a4318", func := "handshaker/handshakerlaw11.AttemptStill", spec := "attemptStill", inPlace := ["slices.overlaps[handshaker/api.Write]"], unfollowed := true, recurses := true, apart := false, narrowed := true }
def AttemptStillUptoSaid : Prop := attemptStillUptoRow.holds Tryz.pinned (OpenSpec.upto attemptStillSpec)

/-- 'handshakerlaw11.AttemptHeld', WHERE WHAT IT READS IS OF BULK AT MOST 1048576: true; the input reads as it did. -/
def attemptHeldUptoRow : OpenClaim := { program := "ytclbeboiojgejaagreat", sum := "9f1c91300dfc0de74e8ee01f3b56643d5145967b7f98083473c969ab516a4318", func := "handshaker/handshakerlaw11.AttemptHeld", spec := "attemptHeld", inPlace := ["slices.overlaps[handshaker/api.Write]"], unfollowed := true, recurses := true, apart := false, narrowed := true }
def AttemptHeldUptoSaid : Prop := attemptHeldUptoRow.holds Tryz.pinned (OpenSpec.upto attemptHeldSpec)

/-- 'handshakerlaw11.AttemptPath', WHERE WHAT IT READS IS OF BULK AT MOST 1048576: true; the input reads as it did. -/
def attemptPathUptoRow : OpenClaim := { program := "ytclbeboiojgejaagreat", sum := "9f1c91300dfc0de74e8ee01f3b56643d5145967b7f98083473c969ab516a4318", func := "handshaker/handshakerlaw11.AttemptPath", spec := "attemptPath", inPlace := ["slices.overlaps[handshaker/api.Write]"], unfollowed := true, recurses := true, apart := false, narrowed := true }
def AttemptPathUptoSaid : Prop := attemptPathUptoRow.holds Tryz.pinned (OpenSpec.upto attemptPathSpec)

end Rows
end Go.Proofs.YtclbeboiojgejaaGreat
