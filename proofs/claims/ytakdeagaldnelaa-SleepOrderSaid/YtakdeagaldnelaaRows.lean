/-
  No cell of these rows narrows 'for every input' (looked for: loops, veiled, ifaces, maps, wideKeys, modest, calm, conditions, laid).
  DERIVED. THE GIVEN ROWS OF THIS SEAT. 6 by the template 'for every input the law returns true; each argument reads behind the call as it read before'; 0 by the template 'total and deterministic' (their statements: YtakdeagaldnelaaTotals.lean).
  GIVEN WITH THE SEED: the statements are not yours to turn. If you find one false, say at which input.
  Laid BY PROGRAM, IN A SANDBOX (cutbox-rows.mjs): the forced cells as the released guide's own fill.sh prints them over the translation 9af8a5b2a9cc063c… (all of the seat's roots in one cut). By AI agents, Wed Nov 11 2026. No macro, syntax, notation, axiom, sorry.
-/
import Derived.Test.YtakdeagaldnelaaChecked
import GoSem.Claim
import GoSem.ClaimJoined
import GoSem.ClaimMapViews
import Derived.JoinedTies
import Derived.KernelRfl
namespace Go.Proofs.Ytakdeagaldnelaa
/- THE CELL 'sum', in the pinned program and in every row, IS THE sha256 OF THE DUMP (.gsa) THAT YtakdeagaldnelaaProg.lean LOADS. Nothing in Lean hashes anything: it is a label: what it is worth is what the hold of that sum in a sandbox is worth. -/
noncomputable def Try.pinned : Pinned := { name := "ytakdeagaldnelaa", sum := "9af8a5b2a9cc063c694c5b92a7e329887fdfc0f804455e78aaea7b73210bfcf1", checked := Try.checked }
namespace Rows
def none {H : Type} : Left H := { results := [], args := [] }

/-- 'handshakerlaw15.SleepTells': WHATEVER THE INPUT: true; the input reads as it did. -/
def sleepTellsSpec : ChangeSpec := { name := "sleepTells", fn := fun _ => fun
  | [d1, d2, d3, d4] => { results := [.lit (.bool true)], args := [d1, d2, d3, d4] }
  | _ => none }
def sleepTellsRow : OpenClaim := { program := "ytakdeagaldnelaa", sum := "9af8a5b2a9cc063c694c5b92a7e329887fdfc0f804455e78aaea7b73210bfcf1", func := "handshaker/handshakerlaw15.SleepTells", spec := "sleepTells", inPlace := ["slices.overlaps[handshaker/sleep.Sleeper]"], unfollowed := true, recurses := true, apart := false }
def SleepTellsSaid : Prop := sleepTellsRow.holds Try.pinned (OpenSpec.ofChange sleepTellsSpec)

/-- ITS FALSE NEIGHBOUR: 'it returns false'. Refute it at one input. -/
def sleepTellsWrong : ChangeSpec := { name := "sleepTells", fn := fun _ => fun
  | [d1, d2, d3, d4] => { results := [.lit (.bool false)], args := [d1, d2, d3, d4] }
  | _ => none }
def SleepTellsWrongFalsely : Prop := sleepTellsRow.holds Try.pinned (OpenSpec.ofChange sleepTellsWrong)

/-- 'handshakerlaw15.SleepReads': WHATEVER THE INPUT: true; the input reads as it did. -/
def sleepReadsSpec : ChangeSpec := { name := "sleepReads", fn := fun _ => fun
  | [d1, d2] => { results := [.lit (.bool true)], args := [d1, d2] }
  | _ => none }
def sleepReadsRow : OpenClaim := { program := "ytakdeagaldnelaa", sum := "9af8a5b2a9cc063c694c5b92a7e329887fdfc0f804455e78aaea7b73210bfcf1", func := "handshaker/handshakerlaw15.SleepReads", spec := "sleepReads", inPlace := ["slices.overlaps[handshaker/sleep.Sleeper]"], unfollowed := true, recurses := true, apart := false }
def SleepReadsSaid : Prop := sleepReadsRow.holds Try.pinned (OpenSpec.ofChange sleepReadsSpec)

/-- ITS FALSE NEIGHBOUR: 'it returns false'. Refute it at one input. -/
def sleepReadsWrong : ChangeSpec := { name := "sleepReads", fn := fun _ => fun
  | [d1, d2] => { results := [.lit (.bool false)], args := [d1, d2] }
  | _ => none }
def SleepReadsWrongFalsely : Prop := sleepReadsRow.holds Try.pinned (OpenSpec.ofChange sleepReadsWrong)

/-- 'handshakerlaw15.SleepTwice': WHATEVER THE INPUT: true; the input reads as it did. -/
def sleepTwiceSpec : ChangeSpec := { name := "sleepTwice", fn := fun _ => fun
  | [d1, d2] => { results := [.lit (.bool true)], args := [d1, d2] }
  | _ => none }
def sleepTwiceRow : OpenClaim := { program := "ytakdeagaldnelaa", sum := "9af8a5b2a9cc063c694c5b92a7e329887fdfc0f804455e78aaea7b73210bfcf1", func := "handshaker/handshakerlaw15.SleepTwice", spec := "sleepTwice", inPlace := ["slices.overlaps[handshaker/sleep.Sleeper]"], unfollowed := true, recurses := true, apart := false }
def SleepTwiceSaid : Prop := sleepTwiceRow.holds Try.pinned (OpenSpec.ofChange sleepTwiceSpec)

/-- ITS FALSE NEIGHBOUR: 'it returns false'. Refute it at one input. -/
def sleepTwiceWrong : ChangeSpec := { name := "sleepTwice", fn := fun _ => fun
  | [d1, d2] => { results := [.lit (.bool false)], args := [d1, d2] }
  | _ => none }
def SleepTwiceWrongFalsely : Prop := sleepTwiceRow.holds Try.pinned (OpenSpec.ofChange sleepTwiceWrong)

/-- 'handshakerlaw15.SleepCells': WHATEVER THE INPUT: true; the input reads as it did. -/
def sleepCellsSpec : ChangeSpec := { name := "sleepCells", fn := fun _ => fun
  | [d1, d2] => { results := [.lit (.bool true)], args := [d1, d2] }
  | _ => none }
def sleepCellsRow : OpenClaim := { program := "ytakdeagaldnelaa", sum := "9af8a5b2a9cc063c694c5b92a7e329887fdfc0f804455e78aaea7b73210bfcf1", func := "handshaker/handshakerlaw15.SleepCells", spec := "sleepCells", inPlace := ["slices.overlaps[handshaker/sleep.Sleeper]"], unfollowed := true, recurses := true, apart := false }
def SleepCellsSaid : Prop := sleepCellsRow.holds Try.pinned (OpenSpec.ofChange sleepCellsSpec)

/-- ITS FALSE NEIGHBOUR: 'it returns false'. Refute it at one input. -/
def sleepCellsWrong : ChangeSpec := { name := "sleepCells", fn := fun _ => fun
  | [d1, d2] => { results := [.lit (.bool false)], args := [d1, d2] }
  | _ => none }
def SleepCellsWrongFalsely : Prop := sleepCellsRow.holds Try.pinned (OpenSpec.ofChange sleepCellsWrong)

/-- 'handshakerlaw15.SleepOrder': WHATEVER THE INPUT: true; the input reads as it did. -/
def sleepOrderSpec : ChangeSpec := { name := "sleepOrder", fn := fun _ => fun
  | [d1, d2] => { results := [.lit (.bool true)], args := [d1, d2] }
  | _ => none }
def sleepOrderRow : OpenClaim := { program := "ytakdeagaldnelaa", sum := "9af8a5b2a9cc063c694c5b92a7e329887fdfc0f804455e78aaea7b73210bfcf1", func := "handshaker/handshakerlaw15.SleepOrder", spec := "sleepOrder", inPlace := ["slices.overlaps[handshaker/sleep.Sleeper]"], unfollowed := true, recurses := true, apart := false }
def SleepOrderSaid : Prop := sleepOrderRow.holds Try.pinned (OpenSpec.ofChange sleepOrderSpec)

/-- ITS FALSE NEIGHBOUR: 'it returns false'. Refute it at one input. -/
def sleepOrderWrong : ChangeSpec := { name := "sleepOrder", fn := fun _ => fun
  | [d1, d2] => { results := [.lit (.bool false)], args := [d1, d2] }
  | _ => none }
def SleepOrderWrongFalsely : Prop := sleepOrderRow.holds Try.pinned (OpenSpec.ofChange sleepOrderWrong)

/-- 'handshakerlaw15.SleepWatch': WHATEVER THE INPUT: true; the input reads as it did. -/
def sleepWatchSpec : ChangeSpec := { name := "sleepWatch", fn := fun _ => fun
  | [d1, d2] => { results := [.lit (.bool true)], args := [d1, d2] }
  | _ => none }
def sleepWatchRow : OpenClaim := { program := "ytakdeagaldnelaa", sum := "9af8a5b2a9cc063c694c5b92a7e329887fdfc0f804455e78aaea7b73210bfcf1", func := "handshaker/handshakerlaw15.SleepWatch", spec := "sleepWatch", inPlace := ["slices.overlaps[handshaker/sleep.Sleeper]"], unfollowed := true, recurses := true, apart := false }
def SleepWatchSaid : Prop := sleepWatchRow.holds Try.pinned (OpenSpec.ofChange sleepWatchSpec)

/-- ITS FALSE NEIGHBOUR: 'it returns false'. Refute it at one input. -/
def sleepWatchWrong : ChangeSpec := { name := "sleepWatch", fn := fun _ => fun
  | [d1, d2] => { results := [.lit (.bool false)], args := [d1, d2] }
  | _ => none }
def SleepWatchWrongFalsely : Prop := sleepWatchRow.holds Try.pinned (OpenSpec.ofChange sleepWatchWrong)

/- THE SECOND FORM. 'bulk': how many values and letters a reading holds, each counted each time it is reached (what is shared counts as often as it is met; a slice's spare places count too). A statement '..UptoSaid' is the law's where the arguments, and the package variables that the reading takes, are together of bulk at most 1048576: NARROWER than '..Said'. Prove '..Said' where nothing that the law and all that it calls make is longer than what came in: it says more and counts as full. Else prove '..UptoSaid'. A law counts once. -/
mutual
def uptoBulk {H : Type} : DataW H → Nat
  | .lit (.string bytes) => bytes.length + 1
  | .lit _ => 1
  | .nil => 1
  | .ptr d => uptoBulk d + 1
  | .slice elems spare => uptoBulkAll elems + uptoBulkAll spare + 1
  | .agg parts => uptoBulkAll parts + 1
  | .iface _ d => uptoBulk d + 1
  | .map entries => uptoBulkEntries entries + 1
  | .held _ => 1
def uptoBulkAll {H : Type} : List (DataW H) → Nat
  | [] => 0
  | d :: r => uptoBulk d + uptoBulkAll r
def uptoBulkEntries {H : Type} : List (Lit × DataW H) → Nat
  | [] => 0
  | x :: r => uptoBulkEntry x + uptoBulkEntries r
def uptoBulkEntry {H : Type} : Lit × DataW H → Nat
  | (.string bytes, d) => bytes.length + uptoBulk d + 1
  | (_, d) => uptoBulk d + 1
 end
def uptoSmall : (H : Type) → List (DataW H) → Bool := fun _ ds => decide (uptoBulkAll ds ≤ 1048576)
def OpenSpec.upto (s : _root_.Go.ChangeSpec) : _root_.Go.OpenSpec := { _root_.Go.OpenSpec.ofChange s with cond := some uptoSmall }

/-- 'handshakerlaw15.SleepTells', WHERE WHAT IT READS IS OF BULK AT MOST 1048576: true; the input reads as it did. -/
def sleepTellsUptoRow : OpenClaim := { program := "ytakdeagaldnelaa", sum := "9af8a5b2a9cc063c694c5b92a7e329887fdfc0f804455e78aaea7b73210bfcf1", func := "handshaker/handshakerlaw15.SleepTells", spec := "sleepTells", inPlace := ["slices.overlaps[handshaker/sleep.Sleeper]"], unfollowed := true, recurses := true, apart := false, narrowed := true }
def SleepTellsUptoSaid : Prop := sleepTellsUptoRow.holds Try.pinned (OpenSpec.upto sleepTellsSpec)

/-- 'handshakerlaw15.SleepReads', WHERE WHAT IT READS IS OF BULK AT MOST 1048576: true; the input reads as it did. -/
def sleepReadsUptoRow : OpenClaim := { program := "ytakdeagaldnelaa", sum := "9af8a5b2a9cc063c694c5b92a7e329887fdfc0f804455e78aaea7b73210bfcf1", func := "handshaker/handshakerlaw15.SleepReads", spec := "sleepReads", inPlace := ["slices.overlaps[handshaker/sleep.Sleeper]"], unfollowed := true, recurses := true, apart := false, narrowed := true }
def SleepReadsUptoSaid : Prop := sleepReadsUptoRow.holds Try.pinned (OpenSpec.upto sleepReadsSpec)

/-- 'handshakerlaw15.SleepTwice', WHERE WHAT IT READS IS OF BULK AT MOST 1048576: true; the input reads as it did. -/
def sleepTwiceUptoRow : OpenClaim := { program := "ytakdeagaldnelaa", sum := "9af8a5b2a9cc063c694c5b92a7e329887fdfc0f804455e78aaea7b73210bfcf1", func := "handshaker/handshakerlaw15.SleepTwice", spec := "sleepTwice", inPlace := ["slices.overlaps[handshaker/sleep.Sleeper]"], unfollowed := true, recurses := true, apart := false, narrowed := true }
def SleepTwiceUptoSaid : Prop := sleepTwiceUptoRow.holds Try.pinned (OpenSpec.upto sleepTwiceSpec)

/-- 'handshakerlaw15.SleepCells', WHERE WHAT IT READS IS OF BULK AT MOST 1048576: true; the input reads as it did. -/
def sleepCellsUptoRow : OpenClaim := { program := "ytakdeagaldnelaa", sum := "9af8a5b2a9cc063c694c5b92a7e329887fdfc0f804455e78aaea7b73210bfcf1", func := "handshaker/handshakerlaw15.SleepCells", spec := "sleepCells", inPlace := ["slices.overlaps[handshaker/sleep.Sleeper]"], unfollowed := true, recurses := true, apart := false, narrowed := true }
def SleepCellsUptoSaid : Prop := sleepCellsUptoRow.holds Try.pinned (OpenSpec.upto sleepCellsSpec)

/-- 'handshakerlaw15.SleepOrder', WHERE WHAT IT READS IS OF BULK AT MOST 1048576: true; the input reads as it did. -/
def sleepOrderUptoRow : OpenClaim := { program := "ytakdeagaldnelaa", sum := "9af8a5b2a9cc063c694c5b92a7e329887fdfc0f804455e78aaea7b73210bfcf1", func := "handshaker/handshakerlaw15.SleepOrder", spec := "sleepOrder", inPlace := ["slices.overlaps[handshaker/sleep.Sleeper]"], unfollowed := true, recurses := true, apart := false, narrowed := true }
def SleepOrderUptoSaid : Prop := sleepOrderUptoRow.holds Try.pinned (OpenSpec.upto sleepOrderSpec)

/-- 'handshakerlaw15.SleepWatch', WHERE WHAT IT READS IS OF BULK AT MOST 1048576: true; the input reads as it did. -/
def sleepWatchUptoRow : OpenClaim := { program := "ytakdeagaldnelaa", sum := "9af8a5b2a9cc063c694c5b92a7e329887fdfc0f804455e78aaea7b73210bfcf1", func := "handshaker/handshakerlaw15.SleepWatch", spec := "sleepWatch", inPlace := ["slices.overlaps[handshaker/sleep.Sleeper]"], unfollowed := true, recurses := true, apart := false, narrowed := true }
def SleepWatchUptoSaid : Prop := sleepWatchUptoRow.holds Try.pinned (OpenSpec.upto sleepWatchSpec)

end Rows
end Go.Proofs.Ytakdeagaldnelaa
