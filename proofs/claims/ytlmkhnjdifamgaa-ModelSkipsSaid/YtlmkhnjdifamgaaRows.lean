/-
  No cell of these rows narrows 'for every input' (looked for: loops, veiled, ifaces, maps, wideKeys, modest, calm, conditions, laid).
  DERIVED. THE GIVEN ROWS OF THIS SEAT. 5 by the template 'for every input the law returns true; each argument reads behind the call as it read before'; 0 by the template 'total and deterministic' (their statements: YtlmkhnjdifamgaaTotals.lean).
  GIVEN WITH THE SEED: the statements are not yours to turn. If you find one false, say at which input.
  Laid BY PROGRAM, IN A SANDBOX (cutbox-rows.mjs): the forced cells as the released guide's own fill.sh prints them over the translation 8ad024865f02aad8… (all of the seat's roots in one cut). By AI agents, Wed Nov 11 2026. No macro, syntax, notation, axiom, sorry.
-/
import Derived.Test.YtlmkhnjdifamgaaChecked
import GoSem.Claim
import GoSem.ClaimJoined
import GoSem.ClaimMapViews
import Derived.JoinedTies
import Derived.KernelRfl
namespace Go.Proofs.Ytlmkhnjdifamgaa
/- THE CELL 'sum', in the pinned program and in every row, IS THE sha256 OF THE DUMP (.gsa) THAT YtlmkhnjdifamgaaProg.lean LOADS. Nothing in Lean hashes anything: it is a label: what it is worth is what the hold of that sum in a sandbox is worth. -/
noncomputable def Try.pinned : Pinned := { name := "ytlmkhnjdifamgaa", sum := "8ad024865f02aad8f3c5a51138f88cd7883e5ea417b4274c24dc8bf7024a47f4", checked := Try.checked }
namespace Rows
def none {H : Type} : Left H := { results := [], args := [] }

/-- 'handshakerlaw10.ModelSeen': WHATEVER THE INPUT: true; the input reads as it did. -/
def modelSeenSpec : ChangeSpec := { name := "modelSeen", fn := fun _ => fun
  | [d1, d2, d3] => { results := [.lit (.bool true)], args := [d1, d2, d3] }
  | _ => none }
def modelSeenRow : OpenClaim := { program := "ytlmkhnjdifamgaa", sum := "8ad024865f02aad8f3c5a51138f88cd7883e5ea417b4274c24dc8bf7024a47f4", func := "handshaker/handshakerlaw10.ModelSeen", spec := "modelSeen", inPlace := ["slices.overlaps[handshaker/api.Write]"], unfollowed := true, recurses := true, apart := false }
def ModelSeenSaid : Prop := modelSeenRow.holds Try.pinned (OpenSpec.ofChange modelSeenSpec)

/-- ITS FALSE NEIGHBOUR: 'it returns false'. Refute it at one input. -/
def modelSeenWrong : ChangeSpec := { name := "modelSeen", fn := fun _ => fun
  | [d1, d2, d3] => { results := [.lit (.bool false)], args := [d1, d2, d3] }
  | _ => none }
def ModelSeenWrongFalsely : Prop := modelSeenRow.holds Try.pinned (OpenSpec.ofChange modelSeenWrong)

/-- 'handshakerlaw10.ModelNothing': WHATEVER THE INPUT: true; the input reads as it did. -/
def modelNothingSpec : ChangeSpec := { name := "modelNothing", fn := fun _ => fun
  | [d1, d2] => { results := [.lit (.bool true)], args := [d1, d2] }
  | _ => none }
def modelNothingRow : OpenClaim := { program := "ytlmkhnjdifamgaa", sum := "8ad024865f02aad8f3c5a51138f88cd7883e5ea417b4274c24dc8bf7024a47f4", func := "handshaker/handshakerlaw10.ModelNothing", spec := "modelNothing", inPlace := ["slices.overlaps[handshaker/api.Write]"], unfollowed := true, recurses := true, apart := false }
def ModelNothingSaid : Prop := modelNothingRow.holds Try.pinned (OpenSpec.ofChange modelNothingSpec)

/-- ITS FALSE NEIGHBOUR: 'it returns false'. Refute it at one input. -/
def modelNothingWrong : ChangeSpec := { name := "modelNothing", fn := fun _ => fun
  | [d1, d2] => { results := [.lit (.bool false)], args := [d1, d2] }
  | _ => none }
def ModelNothingWrongFalsely : Prop := modelNothingRow.holds Try.pinned (OpenSpec.ofChange modelNothingWrong)

/-- 'handshakerlaw10.ModelEither': WHATEVER THE INPUT: true; the input reads as it did. -/
def modelEitherSpec : ChangeSpec := { name := "modelEither", fn := fun _ => fun
  | [d1, d2, d3] => { results := [.lit (.bool true)], args := [d1, d2, d3] }
  | _ => none }
def modelEitherRow : OpenClaim := { program := "ytlmkhnjdifamgaa", sum := "8ad024865f02aad8f3c5a51138f88cd7883e5ea417b4274c24dc8bf7024a47f4", func := "handshaker/handshakerlaw10.ModelEither", spec := "modelEither", inPlace := ["slices.overlaps[handshaker/api.Write]"], unfollowed := true, recurses := true, apart := false }
def ModelEitherSaid : Prop := modelEitherRow.holds Try.pinned (OpenSpec.ofChange modelEitherSpec)

/-- ITS FALSE NEIGHBOUR: 'it returns false'. Refute it at one input. -/
def modelEitherWrong : ChangeSpec := { name := "modelEither", fn := fun _ => fun
  | [d1, d2, d3] => { results := [.lit (.bool false)], args := [d1, d2, d3] }
  | _ => none }
def ModelEitherWrongFalsely : Prop := modelEitherRow.holds Try.pinned (OpenSpec.ofChange modelEitherWrong)

/-- 'handshakerlaw10.ModelTwo': WHATEVER THE INPUT: true; the input reads as it did. -/
def modelTwoSpec : ChangeSpec := { name := "modelTwo", fn := fun _ => fun
  | [d1, d2, d3] => { results := [.lit (.bool true)], args := [d1, d2, d3] }
  | _ => none }
def modelTwoRow : OpenClaim := { program := "ytlmkhnjdifamgaa", sum := "8ad024865f02aad8f3c5a51138f88cd7883e5ea417b4274c24dc8bf7024a47f4", func := "handshaker/handshakerlaw10.ModelTwo", spec := "modelTwo", inPlace := ["slices.overlaps[handshaker/api.Write]"], unfollowed := true, recurses := true, apart := false }
def ModelTwoSaid : Prop := modelTwoRow.holds Try.pinned (OpenSpec.ofChange modelTwoSpec)

/-- ITS FALSE NEIGHBOUR: 'it returns false'. Refute it at one input. -/
def modelTwoWrong : ChangeSpec := { name := "modelTwo", fn := fun _ => fun
  | [d1, d2, d3] => { results := [.lit (.bool false)], args := [d1, d2, d3] }
  | _ => none }
def ModelTwoWrongFalsely : Prop := modelTwoRow.holds Try.pinned (OpenSpec.ofChange modelTwoWrong)

/-- 'handshakerlaw10.ModelSkips': WHATEVER THE INPUT: true; the input reads as it did. -/
def modelSkipsSpec : ChangeSpec := { name := "modelSkips", fn := fun _ => fun
  | [d1, d2, d3] => { results := [.lit (.bool true)], args := [d1, d2, d3] }
  | _ => none }
def modelSkipsRow : OpenClaim := { program := "ytlmkhnjdifamgaa", sum := "8ad024865f02aad8f3c5a51138f88cd7883e5ea417b4274c24dc8bf7024a47f4", func := "handshaker/handshakerlaw10.ModelSkips", spec := "modelSkips", inPlace := ["slices.overlaps[handshaker/api.Write]"], unfollowed := true, recurses := true, apart := false }
def ModelSkipsSaid : Prop := modelSkipsRow.holds Try.pinned (OpenSpec.ofChange modelSkipsSpec)

/-- ITS FALSE NEIGHBOUR: 'it returns false'. Refute it at one input. -/
def modelSkipsWrong : ChangeSpec := { name := "modelSkips", fn := fun _ => fun
  | [d1, d2, d3] => { results := [.lit (.bool false)], args := [d1, d2, d3] }
  | _ => none }
def ModelSkipsWrongFalsely : Prop := modelSkipsRow.holds Try.pinned (OpenSpec.ofChange modelSkipsWrong)

/- THE SECOND FORM. 'bulk': how many values and letters a reading holds, each counted each time it is reached (what is shared counts as often as it is met; a slice's spare places count too). A statement '..UptoSaid' is the law's where the arguments, and the package variables that the reading takes, are together of bulk at most 1048576: NARROWER than '..Said'. Prove '..Said' where nothing that the law and all that it calls make is longer than what came in: it says more and counts as full. Else prove '..UptoSaid'. A law counts once. -/
mutual
def uptoBulk {H : Type} : DataW H → Nat
  | .lit (.string bytes) => bytes.length + 1
  | .lit _ => 1
  | .nil => 1
  | .ptr d => uptoBulk d + 1
  | .slice elems spare => uptoBulkAll elems + uptoBulkAll spare + 1
  | .agg parts => uptoBulkAll parts + 1
  | .iface _ d => uptoBulk d + 1
  | .map entries => uptoBulkEntries entries + 1
  | .held _ => 1
def uptoBulkAll {H : Type} : List (DataW H) → Nat
  | [] => 0
  | d :: r => uptoBulk d + uptoBulkAll r
def uptoBulkEntries {H : Type} : List (Lit × DataW H) → Nat
  | [] => 0
  | x :: r => uptoBulkEntry x + uptoBulkEntries r
def uptoBulkEntry {H : Type} : Lit × DataW H → Nat
  | (.string bytes, d) => bytes.length + uptoBulk d + 1
  | (_, d) => uptoBulk d + 1
 end
def uptoSmall : (H : Type) → List (DataW H) → Bool := fun _ ds => decide (uptoBulkAll ds ≤ 1048576)
def OpenSpec.upto (s : _root_.Go.ChangeSpec) : _root_.Go.OpenSpec := { _root_.Go.OpenSpec.ofChange s with cond := some uptoSmall }

/-- 'handshakerlaw10.ModelSeen', WHERE WHAT IT READS IS OF BULK AT MOST 1048576: true; the input reads as it did. -/
def modelSeenUptoRow : OpenClaim := { program := "ytlmkhnjdifamgaa", sum := "8ad024865f02aad8f3c5a51138f88cd7883e5ea417b4274c24dc8bf7024a47f4", func := "handshaker/handshakerlaw10.ModelSeen", spec := "modelSeen", inPlace := ["slices.overlaps[handshaker/api.Write]"], unfollowed := true, recurses := true, apart := false, narrowed := true }
def ModelSeenUptoSaid : Prop := modelSeenUptoRow.holds Try.pinned (OpenSpec.upto modelSeenSpec)

/-- 'handshakerlaw10.ModelNothing', WHERE WHAT IT READS IS OF BULK AT MOST 1048576: true; the input reads as it did. -/
def modelNothingUptoRow : OpenClaim := { program := "ytlmkhnjdifamgaa", sum := "8ad024865f02aad8f3c5a51138f88cd7883e5ea417b4274c24dc8bf7024a47f4", func := "handshaker/handshakerlaw10.ModelNothing", spec := "modelNothing", inPlace := ["slices.overlaps[handshaker/api.Write]"], unfollowed := true, recurses := true, apart := false, narrowed := true }
def ModelNothingUptoSaid : Prop := modelNothingUptoRow.holds Try.pinned (OpenSpec.upto modelNothingSpec)

/-- 'handshakerlaw10.ModelEither', WHERE WHAT IT READS IS OF BULK AT MOST 1048576: true; the input reads as it did. -/
def modelEitherUptoRow : OpenClaim := { program := "ytlmkhnjdifamgaa", sum := "8ad024865f02aad8f3c5a51138f88cd7883e5ea417b4274c24dc8bf7024a47f4", func := "handshaker/handshakerlaw10.ModelEither", spec := "modelEither", inPlace := ["slices.overlaps[handshaker/api.Write]"], unfollowed := true, recurses := true, apart := false, narrowed := true }
def ModelEitherUptoSaid : Prop := modelEitherUptoRow.holds Try.pinned (OpenSpec.upto modelEitherSpec)

/-- 'handshakerlaw10.ModelTwo', WHERE WHAT IT READS IS OF BULK AT MOST 1048576: true; the input reads as it did. -/
def modelTwoUptoRow : OpenClaim := { program := "ytlmkhnjdifamgaa", sum := "8ad024865f02aad8f3c5a51138f88cd7883e5ea417b4274c24dc8bf7024a47f4", func := "handshaker/handshakerlaw10.ModelTwo", spec := "modelTwo", inPlace := ["slices.overlaps[handshaker/api.Write]"], unfollowed := true, recurses := true, apart := false, narrowed := true }
def ModelTwoUptoSaid : Prop := modelTwoUptoRow.holds Try.pinned (OpenSpec.upto modelTwoSpec)

/-- 'handshakerlaw10.ModelSkips', WHERE WHAT IT READS IS OF BULK AT MOST 1048576: true; the input reads as it did. -/
def modelSkipsUptoRow : OpenClaim := { program := "ytlmkhnjdifamgaa", sum := "8ad024865f02aad8f3c5a51138f88cd7883e5ea417b4274c24dc8bf7024a47f4", func := "handshaker/handshakerlaw10.ModelSkips", spec := "modelSkips", inPlace := ["slices.overlaps[handshaker/api.Write]"], unfollowed := true, recurses := true, apart := false, narrowed := true }
def ModelSkipsUptoSaid : Prop := modelSkipsUptoRow.holds Try.pinned (OpenSpec.upto modelSkipsSpec)

end Rows
end Go.Proofs.Ytlmkhnjdifamgaa
