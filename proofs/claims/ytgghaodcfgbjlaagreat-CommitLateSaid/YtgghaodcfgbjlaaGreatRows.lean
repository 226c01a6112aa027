/-
  No cell of these rows narrows 'for every input' (looked for: loops, veiled, ifaces, maps, wideKeys, modest, calm, conditions, laid).
  DERIVED. THE GIVEN ROWS OF THIS SEAT. 7 by the template 'for every input the law returns true; each argument reads behind the call as it read before'; 0 by the template 'total and deterministic' (their statements: YtgghaodcfgbjlaaGreatTotals.lean).
  GIVEN WITH THE SEED: the statements are not yours to turn. If you find one false, say at which input.
  Laid BY PROGRAM, IN A SANDBOX (cutbox-rows.mjs): the forced cells as the released guide's own fill.sh prints them over the translation 81871238427e3ea3… (all of the seat's roots in one cut). By AI agents, Wed Nov 11 2026. No macro, syntax, notation, axiom, sorry.
-/
import Derived.Test.YtgghaodcfgbjlaaGreatChecked
import GoSem.Claim
import GoSem.ClaimJoined
import GoSem.ClaimMapViews
import Derived.JoinedTies
import Derived.KernelRfl
namespace Go.Proofs.YtgghaodcfgbjlaaGreat
/- THE CELL 'sum', in the pinned program and in every row, IS THE sha256 OF THE DUMP (.gsa) THAT YtgghaodcfgbjlaaGreatProg.lean LOADS. Nothing in Lean hashes anything: it is a label: what it is worth is what the hold of that sum in a sandbox is worth. -/
noncomputable def Tryz.pinned : Pinned := { name := "ytgghaodcfgbjlaagreat", sum := "81871238427e3ea3f15f37e2fc1170f6dfce26828127179b5ecd5b5ee977d7c0", checked := Tryz.checked }
namespace Rows
def none {H : Type} : Left H := { results := [], args := [] }

/-- 'handshakerlaw11.AttemptTells': WHATEVER THE INPUT: true; the input reads as it did. -/
def attemptTellsSpec : ChangeSpec := { name := "attemptTells", fn := fun _ => fun
  | [d1, d2, d3, d4] => { results := [.lit (.bool true)], args := [d1, d2, d3, d4] }
  | _ => none }
def attemptTellsRow : OpenClaim := { program := "ytgghaodcfgbjlaagreat", sum := "81871238427e3ea3f15f37e2fc1170f6dfce26828127179b5ecd5b5ee977d7c0", func := "handshaker/handshakerlaw11.AttemptTells", spec := "attemptTells", inPlace := ["slices.overlaps[handshaker/api.Write]"], unfollowed := true, recurses := true, apart := false }
def AttemptTellsSaid : Prop := attemptTellsRow.holds Tryz.pinned (OpenSpec.ofChange attemptTellsSpec)

/-- ITS FALSE NEIGHBOUR: 'it returns false'. Refute it at one input. -/
def attemptTellsWrong : ChangeSpec := { name := "attemptTells", fn := fun _ => fun
  | [d1, d2, d3, d4] => { results := [.lit (.bool false)], args := [d1, d2, d3, d4] }
  | _ => none }
def AttemptTellsWrongFalsely : Prop := attemptTellsRow.holds Tryz.pinned (OpenSpec.ofChange attemptTellsWrong)

/-- 'handshakerlaw12.CommitTells': WHATEVER THE INPUT: true; the input reads as it did. -/
def commitTellsSpec : ChangeSpec := { name := "commitTells", fn := fun _ => fun
  | [d1, d2, d3, d4, d5] => { results := [.lit (.bool true)], args := [d1, d2, d3, d4, d5] }
  | _ => none }
def commitTellsRow : OpenClaim := { program := "ytgghaodcfgbjlaagreat", sum := "81871238427e3ea3f15f37e2fc1170f6dfce26828127179b5ecd5b5ee977d7c0", func := "handshaker/handshakerlaw12.CommitTells", spec := "commitTells", inPlace := ["slices.overlaps[handshaker/api.Write]"], unfollowed := true, recurses := true, apart := false }
def CommitTellsSaid : Prop := commitTellsRow.holds Tryz.pinned (OpenSpec.ofChange commitTellsSpec)

/-- ITS FALSE NEIGHBOUR: 'it returns false'. Refute it at one input. -/
def commitTellsWrong : ChangeSpec := { name := "commitTells", fn := fun _ => fun
  | [d1, d2, d3, d4, d5] => { results := [.lit (.bool false)], args := [d1, d2, d3, d4, d5] }
  | _ => none }
def CommitTellsWrongFalsely : Prop := commitTellsRow.holds Tryz.pinned (OpenSpec.ofChange commitTellsWrong)

/-- 'handshakerlaw12.CommitAlone': WHATEVER THE INPUT: true; the input reads as it did. -/
def commitAloneSpec : ChangeSpec := { name := "commitAlone", fn := fun _ => fun
  | [d1, d2, d3] => { results := [.lit (.bool true)], args := [d1, d2, d3] }
  | _ => none }
def commitAloneRow : OpenClaim := { program := "ytgghaodcfgbjlaagreat", sum := "81871238427e3ea3f15f37e2fc1170f6dfce26828127179b5ecd5b5ee977d7c0", func := "handshaker/handshakerlaw12.CommitAlone", spec := "commitAlone", inPlace := ["slices.overlaps[handshaker/api.Write]"], unfollowed := true, recurses := true, apart := false }
def CommitAloneSaid : Prop := commitAloneRow.holds Tryz.pinned (OpenSpec.ofChange commitAloneSpec)

/-- ITS FALSE NEIGHBOUR: 'it returns false'. Refute it at one input. -/
def commitAloneWrong : ChangeSpec := { name := "commitAlone", fn := fun _ => fun
  | [d1, d2, d3] => { results := [.lit (.bool false)], args := [d1, d2, d3] }
  | _ => none }
def CommitAloneWrongFalsely : Prop := commitAloneRow.holds Tryz.pinned (OpenSpec.ofChange commitAloneWrong)

/-- 'handshakerlaw12.CommitOut': WHATEVER THE INPUT: true; the input reads as it did. -/
def commitOutSpec : ChangeSpec := { name := "commitOut", fn := fun _ => fun
  | [d1, d2, d3, d4, d5, d6] => { results := [.lit (.bool true)], args := [d1, d2, d3, d4, d5, d6] }
  | _ => none }
def commitOutRow : OpenClaim := { program := "ytgghaodcfgbjlaagreat", sum := "81871238427e3ea3f15f37e2fc1170f6dfce26828127179b5ecd5b5ee977d7c0", func := "handshaker/handshakerlaw12.CommitOut", spec := "commitOut", inPlace := ["slices.overlaps[handshaker/api.Write]"], unfollowed := true, recurses := true, apart := false }
def CommitOutSaid : Prop := commitOutRow.holds Tryz.pinned (OpenSpec.ofChange commitOutSpec)

/-- ITS FALSE NEIGHBOUR: 'it returns false'. Refute it at one input. -/
def commitOutWrong : ChangeSpec := { name := "commitOut", fn := fun _ => fun
  | [d1, d2, d3, d4, d5, d6] => { results := [.lit (.bool false)], args := [d1, d2, d3, d4, d5, d6] }
  | _ => none }
def CommitOutWrongFalsely : Prop := commitOutRow.holds Tryz.pinned (OpenSpec.ofChange commitOutWrong)

/-- 'handshakerlaw12.CommitLate': WHATEVER THE INPUT: true; the input reads as it did. -/
def commitLateSpec : ChangeSpec := { name := "commitLate", fn := fun _ => fun
  | [d1, d2, d3, d4, d5, d6] => { results := [.lit (.bool true)], args := [d1, d2, d3, d4, d5, d6] }
  | _ => none }
def commitLateRow : OpenClaim := { program := "ytgghaodcfgbjlaagreat", sum := "81871238427e3ea3f15f37e2fc1170f6dfce26828127179b5ecd5b5ee977d7c0", func := "handshaker/handshakerlaw12.CommitLate", spec := "commitLate", inPlace := ["slices.overlaps[handshaker/api.Write]"], unfollowed := true, recurses := true, apart := false }
def CommitLateSaid : Prop := commitLateRow.holds Tryz.pinned (OpenSpec.ofChange commitLateSpec)

/-- ITS FALSE NEIGHBOUR: 'it returns false'. Refute it at one input. -/
def commitLateWrong : ChangeSpec := { name := "commitLate", fn := fun _ => fun
  | [d1, d2, d3, d4, d5, d6] => { results := [.lit (.bool false)], args := [d1, d2, d3, d4, d5, d6] }
  | _ => none }
def CommitLateWrongFalsely : Prop := commitLateRow.holds Tryz.pinned (OpenSpec.ofChange commitLateWrong)

/-- 'handshakerlaw12.CommitTwice': WHATEVER THE INPUT: true; the input reads as it did. -/
def commitTwiceSpec : ChangeSpec := { name := "commitTwice", fn := fun _ => fun
  | [d1, d2, d3] => { results := [.lit (.bool true)], args := [d1, d2, d3] }
  | _ => none }
def commitTwiceRow : OpenClaim := { program := "ytgghaodcfgbjlaagreat", sum := "81871238427e3ea3f15f37e2fc1170f6dfce26828127179b5ecd5b5ee977d7c0", func := "handshaker/handshakerlaw12.CommitTwice", spec := "commitTwice", inPlace := ["slices.overlaps[handshaker/api.Write]"], unfollowed := true, recurses := true, apart := false }
def CommitTwiceSaid : Prop := commitTwiceRow.holds Tryz.pinned (OpenSpec.ofChange commitTwiceSpec)

/-- ITS FALSE NEIGHBOUR: 'it returns false'. Refute it at one input. -/
def commitTwiceWrong : ChangeSpec := { name := "commitTwice", fn := fun _ => fun
  | [d1, d2, d3] => { results := [.lit (.bool false)], args := [d1, d2, d3] }
  | _ => none }
def CommitTwiceWrongFalsely : Prop := commitTwiceRow.holds Tryz.pinned (OpenSpec.ofChange commitTwiceWrong)

/-- 'handshakerlaw12.CommitSteps': WHATEVER THE INPUT: true; the input reads as it did. -/
def commitStepsSpec : ChangeSpec := { name := "commitSteps", fn := fun _ => fun
  | [d1, d2, d3, d4, d5] => { results := [.lit (.bool true)], args := [d1, d2, d3, d4, d5] }
  | _ => none }
def commitStepsRow : OpenClaim := { program := "ytgghaodcfgbjlaagreat", sum := "81871238427e3ea3f15f37e2fc1170f6dfce26828127179b5ecd5b5ee977d7c0", func := "handshaker/handshakerlaw12.CommitSteps", spec := "commitSteps", inPlace := ["slices.overlaps[handshaker/api.Write]"], unfollowed := true, recurses := true, apart := false }
def CommitStepsSaid : Prop := commitStepsRow.holds Tryz.pinned (OpenSpec.ofChange commitStepsSpec)

/-- ITS FALSE NEIGHBOUR: 'it returns false'. Refute it at one input. -/
def commitStepsWrong : ChangeSpec := { name := "commitSteps", fn := fun _ => fun
  | [d1, d2, d3, d4, d5] => { results := [.lit (.bool false)], args := [d1, d2, d3, d4, d5] }
  | _ => none }
def CommitStepsWrongFalsely : Prop := commitStepsRow.holds Tryz.pinned (OpenSpec.ofChange commitStepsWrong)

/- THE SECOND FORM. 'bulk': how many values and letters a reading holds, each counted each time it is reached (what is shared counts as often as it is met; a slice's spare places count too). A statement '..UptoSaid' is the law's where the arguments, and the package variables that the reading takes, are together of bulk at most 1048576: NARROWER than '..Said'. Prove '..Said' where nothing that the law and all that it calls make is longer than what came in: it says more and counts as full. Else prove '..UptoSaid'. A law counts once. -/
mutual
def uptoBulk {H : Type} : DataW H → Nat
  | .lit (.string bytes) => bytes.length + 1
  | .lit _ => 1
  | .nil => 1
  | .ptr d => uptoBulk d + 1
  | .slice elems spare => uptoBulkAll elems + uptoBulkAll spare + 1
  | .agg parts => uptoBulkAll parts + 1
  | .iface _ d => uptoBulk d + 1
  | .map entries => uptoBulkEntries entries + 1
  | .held _ => 1
def uptoBulkAll {H : Type} : List (DataW H) → Nat
  | [] => 0
  | d :: r => uptoBulk d + uptoBulkAll r
def uptoBulkEntries {H : Type} : List (Lit × DataW H) → Nat
  | [] => 0
  | x :: r => uptoBulkEntry x + uptoBulkEntries r
def uptoBulkEntry {H : Type} : Lit × DataW H → Nat
  | (.string bytes, d) => bytes.length + uptoBulk d + 1
  | (_, d) => uptoBulk d + 1
 end
def uptoSmall : (H : Type) → List (DataW H) → Bool := fun _ ds => decide (uptoBulkAll ds ≤ 1048576)
def OpenSpec.upto (s : _root_.Go.ChangeSpec) : _root_.Go.OpenSpec := { _root_.Go.OpenSpec.ofChange s with cond := some uptoSmall }

/-- 'handshakerlaw11.AttemptTells', WHERE WHAT IT READS IS OF BULK AT MOST 1048576: true; the input reads as it did. -/
def attemptTellsUptoRow : OpenClaim := { program := "ytgghaodcfgbjlaagreat", sum := "81871238427e3ea3f15f37e2fc1170f6dfce26828127179b5ecd5b5ee977d7c0", func := "handshaker/handshakerlaw11.AttemptTells", spec := "attemptTells", inPlace := ["slices.overlaps[handshaker/api.Write]"], unfollowed := true, recurses := true, apart := false, narrowed := true }
def AttemptTellsUptoSaid : Prop := attemptTellsUptoRow.holds Tryz.pinned (OpenSpec.upto attemptTellsSpec)

/-- 'handshakerlaw12.CommitTells', WHERE WHAT IT READS IS OF BULK AT MOST 1048576: true; the input reads as it did. -/
def commitTellsUptoRow : OpenClaim := { program := "ytgghaodcfgbjlaagreat", sum := "81871238427e3ea3f15f37e2fc1170f6dfce26828127179b5ecd5b5ee977d7c0", func := "handshaker/handshakerlaw12.CommitTells", spec := "commitTells", inPlace := ["slices.overlaps[handshaker/api.Write]"], unfollowed := true, recurses := true, apart := false, narrowed := true }
def CommitTellsUptoSaid : Prop := commitTellsUptoRow.holds Tryz.pinned (OpenSpec.upto commitTellsSpec)

/-- 'handshakerlaw12.CommitAlone', WHERE WHAT IT READS IS OF BULK AT MOST 1048576: true; the input reads as it did. -/
def commitAloneUptoRow : OpenClaim := { program := "ytgghaodcfgbjlaagreat", sum := "81871238427e3ea3f15f37e2fc1170f6dfce26828127179b5ecd5b5ee977d7c0", func := "handshaker/handshakerlaw12.CommitAlone", spec := "commitAlone", inPlace := ["slices.overlaps[handshaker/api.Write]"], unfollowed := true, recurses := true, apart := false, narrowed := true }
def CommitAloneUptoSaid : Prop := commitAloneUptoRow.holds Tryz.pinned (OpenSpec.upto commitAloneSpec)

/-- 'handshakerlaw12.CommitOut', WHERE WHAT IT READS IS OF BULK AT MOST 1048576: true; the input reads as it did. -/
def commitOutUptoRow : OpenClaim := { program := "ytgghaodcfgbjlaagreat", sum := "81871238427e3ea3f15f37e2fc1170f6dfce26828127179b5ecd5b5ee977d7c0", func := "handshaker/handshakerlaw12.CommitOut", spec := "commitOut", inPlace := ["slices.overlaps[handshaker/api.Write]"], unfollowed := true, recurses := true, apart := false, narrowed := true }
def CommitOutUptoSaid : Prop := commitOutUptoRow.holds Tryz.pinned (OpenSpec.upto commitOutSpec)

/-- 'handshakerlaw12.CommitLate', WHERE WHAT IT READS IS OF BULK AT MOST 1048576: true; the input reads as it did. -/
def commitLateUptoRow : OpenClaim := { program := "ytgghaodcfgbjlaagreat", sum := "81871238427e3ea3f15f37e2fc1170f6dfce26828127179b5ecd5b5ee977d7c0", func := "handshaker/handshakerlaw12.CommitLate", spec := "commitLate", inPlace := ["slices.overlaps[handshaker/api.Write]"], unfollowed := true, recurses := true, apart := false, narrowed := true }
def CommitLateUptoSaid : Prop := commitLateUptoRow.holds Tryz.pinned (OpenSpec.upto commitLateSpec)

/-- 'handshakerlaw12.CommitTwice', WHERE WHAT IT READS IS OF BULK AT MOST 1048576: true; the input reads as it did. -/
def commitTwiceUptoRow : OpenClaim := { program := "ytgghaodcfgbjlaagreat", sum := "81871238427e3ea3f15f37e2fc1170f6dfce26828127179b5ecd5b5ee977d7c0", func := "handshaker/handshakerlaw12.CommitTwice", spec := "commitTwice", inPlace := ["slices.overlaps[handshaker/api.Write]"], unfollowed := true, recurses := true, apart := false, narrowed := true }
def CommitTwiceUptoSaid : Prop := commitTwiceUptoRow.holds Tryz.pinned (OpenSpec.upto commitTwiceSpec)

/-- 'handshakerlaw12.CommitSteps', WHERE WHAT IT READS IS OF BULK AT MOST 1048576: true; the input reads as it did. -/
def commitStepsUptoRow : OpenClaim := { program := "ytgghaodcfgbjlaagreat", sum := "81871238427e3ea3f15f37e2fc1170f6dfce26828127179b5ecd5b5ee977d7c0", func := "handshaker/handshakerlaw12.CommitSteps", spec := "commitSteps", inPlace := ["slices.overlaps[handshaker/api.Write]"], unfollowed := true, recurses := true, apart := false, narrowed := true }
def CommitStepsUptoSaid : Prop := commitStepsUptoRow.holds Tryz.pinned (OpenSpec.upto commitStepsSpec)

end Rows
end Go.Proofs.YtgghaodcfgbjlaaGreat
