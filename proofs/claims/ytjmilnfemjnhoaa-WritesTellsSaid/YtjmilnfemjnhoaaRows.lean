/-
  No cell of these rows narrows 'for every input' (looked for: loops, veiled, ifaces, maps, wideKeys, modest, calm, conditions, laid).
  DERIVED. THE GIVEN ROWS OF THIS SEAT. 6 by the template 'for every input the law returns true; each argument reads behind the call as it read before'; 0 by the template 'total and deterministic' (their statements: YtjmilnfemjnhoaaTotals.lean).
  GIVEN WITH THE SEED: the statements are not yours to turn. If you find one false, say at which input.
  Laid BY PROGRAM, IN A SANDBOX (cutbox-rows.mjs): the forced cells as the released guide's own fill.sh prints them over the translation 4a118059edf4e3ce… (all of the seat's roots in one cut). By AI agents, Wed Nov 11 2026. No macro, syntax, notation, axiom, sorry.
-/
import Derived.Test.YtjmilnfemjnhoaaChecked
import GoSem.Claim
import GoSem.ClaimJoined
import GoSem.ClaimMapViews
import Derived.JoinedTies
import Derived.KernelRfl
namespace Go.Proofs.Ytjmilnfemjnhoaa
/- THE CELL 'sum', in the pinned program and in every row, IS THE sha256 OF THE DUMP (.gsa) THAT YtjmilnfemjnhoaaProg.lean LOADS. Nothing in Lean hashes anything: it is a label: what it is worth is what the hold of that sum in a sandbox is worth. -/
noncomputable def Try.pinned : Pinned := { name := "ytjmilnfemjnhoaa", sum := "4a118059edf4e3cec401a8bf43785c7c3f8c6ce8463ff77c7bd314583df970c7", checked := Try.checked }
namespace Rows
def none {H : Type} : Left H := { results := [], args := [] }

/-- 'handshakerlaw06.WritesTells': WHATEVER THE INPUT: true; the input reads as it did. -/
def writesTellsSpec : ChangeSpec := { name := "writesTells", fn := fun _ => fun
  | [d1, d2, d3] => { results := [.lit (.bool true)], args := [d1, d2, d3] }
  | _ => none }
def writesTellsRow : OpenClaim := { program := "ytjmilnfemjnhoaa", sum := "4a118059edf4e3cec401a8bf43785c7c3f8c6ce8463ff77c7bd314583df970c7", func := "handshaker/handshakerlaw06.WritesTells", spec := "writesTells", inPlace := ["slices.overlaps[handshaker/api.Write]"], unfollowed := true, recurses := true, apart := false }
def WritesTellsSaid : Prop := writesTellsRow.holds Try.pinned (OpenSpec.ofChange writesTellsSpec)

/-- ITS FALSE NEIGHBOUR: 'it returns false'. Refute it at one input. -/
def writesTellsWrong : ChangeSpec := { name := "writesTells", fn := fun _ => fun
  | [d1, d2, d3] => { results := [.lit (.bool false)], args := [d1, d2, d3] }
  | _ => none }
def WritesTellsWrongFalsely : Prop := writesTellsRow.holds Try.pinned (OpenSpec.ofChange writesTellsWrong)

/-- 'handshakerlaw06.WritesBack': WHATEVER THE INPUT: true; the input reads as it did. -/
def writesBackSpec : ChangeSpec := { name := "writesBack", fn := fun _ => fun
  | [d1, d2, d3] => { results := [.lit (.bool true)], args := [d1, d2, d3] }
  | _ => none }
def writesBackRow : OpenClaim := { program := "ytjmilnfemjnhoaa", sum := "4a118059edf4e3cec401a8bf43785c7c3f8c6ce8463ff77c7bd314583df970c7", func := "handshaker/handshakerlaw06.WritesBack", spec := "writesBack", inPlace := ["slices.overlaps[handshaker/api.Write]"], unfollowed := true, recurses := true, apart := false }
def WritesBackSaid : Prop := writesBackRow.holds Try.pinned (OpenSpec.ofChange writesBackSpec)

/-- ITS FALSE NEIGHBOUR: 'it returns false'. Refute it at one input. -/
def writesBackWrong : ChangeSpec := { name := "writesBack", fn := fun _ => fun
  | [d1, d2, d3] => { results := [.lit (.bool false)], args := [d1, d2, d3] }
  | _ => none }
def WritesBackWrongFalsely : Prop := writesBackRow.holds Try.pinned (OpenSpec.ofChange writesBackWrong)

/-- 'handshakerlaw06.WritesLast': WHATEVER THE INPUT: true; the input reads as it did. -/
def writesLastSpec : ChangeSpec := { name := "writesLast", fn := fun _ => fun
  | [d1, d2] => { results := [.lit (.bool true)], args := [d1, d2] }
  | _ => none }
def writesLastRow : OpenClaim := { program := "ytjmilnfemjnhoaa", sum := "4a118059edf4e3cec401a8bf43785c7c3f8c6ce8463ff77c7bd314583df970c7", func := "handshaker/handshakerlaw06.WritesLast", spec := "writesLast", inPlace := ["slices.overlaps[handshaker/api.Write]"], unfollowed := true, recurses := true, apart := false }
def WritesLastSaid : Prop := writesLastRow.holds Try.pinned (OpenSpec.ofChange writesLastSpec)

/-- ITS FALSE NEIGHBOUR: 'it returns false'. Refute it at one input. -/
def writesLastWrong : ChangeSpec := { name := "writesLast", fn := fun _ => fun
  | [d1, d2] => { results := [.lit (.bool false)], args := [d1, d2] }
  | _ => none }
def WritesLastWrongFalsely : Prop := writesLastRow.holds Try.pinned (OpenSpec.ofChange writesLastWrong)

/-- 'handshakerlaw06.WritesFills': WHATEVER THE INPUT: true; the input reads as it did. -/
def writesFillsSpec : ChangeSpec := { name := "writesFills", fn := fun _ => fun
  | [d1, d2] => { results := [.lit (.bool true)], args := [d1, d2] }
  | _ => none }
def writesFillsRow : OpenClaim := { program := "ytjmilnfemjnhoaa", sum := "4a118059edf4e3cec401a8bf43785c7c3f8c6ce8463ff77c7bd314583df970c7", func := "handshaker/handshakerlaw06.WritesFills", spec := "writesFills", inPlace := ["slices.overlaps[handshaker/api.Write]"], unfollowed := true, recurses := true, apart := false }
def WritesFillsSaid : Prop := writesFillsRow.holds Try.pinned (OpenSpec.ofChange writesFillsSpec)

/-- ITS FALSE NEIGHBOUR: 'it returns false'. Refute it at one input. -/
def writesFillsWrong : ChangeSpec := { name := "writesFills", fn := fun _ => fun
  | [d1, d2] => { results := [.lit (.bool false)], args := [d1, d2] }
  | _ => none }
def WritesFillsWrongFalsely : Prop := writesFillsRow.holds Try.pinned (OpenSpec.ofChange writesFillsWrong)

/-- 'handshakerlaw06.WritesKeeps': WHATEVER THE INPUT: true; the input reads as it did. -/
def writesKeepsSpec : ChangeSpec := { name := "writesKeeps", fn := fun _ => fun
  | [d1, d2] => { results := [.lit (.bool true)], args := [d1, d2] }
  | _ => none }
def writesKeepsRow : OpenClaim := { program := "ytjmilnfemjnhoaa", sum := "4a118059edf4e3cec401a8bf43785c7c3f8c6ce8463ff77c7bd314583df970c7", func := "handshaker/handshakerlaw06.WritesKeeps", spec := "writesKeeps", inPlace := ["slices.overlaps[handshaker/api.Write]"], unfollowed := true, recurses := true, apart := false }
def WritesKeepsSaid : Prop := writesKeepsRow.holds Try.pinned (OpenSpec.ofChange writesKeepsSpec)

/-- ITS FALSE NEIGHBOUR: 'it returns false'. Refute it at one input. -/
def writesKeepsWrong : ChangeSpec := { name := "writesKeeps", fn := fun _ => fun
  | [d1, d2] => { results := [.lit (.bool false)], args := [d1, d2] }
  | _ => none }
def WritesKeepsWrongFalsely : Prop := writesKeepsRow.holds Try.pinned (OpenSpec.ofChange writesKeepsWrong)

/-- 'handshakerlaw06.WritesOther': WHATEVER THE INPUT: true; the input reads as it did. -/
def writesOtherSpec : ChangeSpec := { name := "writesOther", fn := fun _ => fun
  | [d1, d2, d3] => { results := [.lit (.bool true)], args := [d1, d2, d3] }
  | _ => none }
def writesOtherRow : OpenClaim := { program := "ytjmilnfemjnhoaa", sum := "4a118059edf4e3cec401a8bf43785c7c3f8c6ce8463ff77c7bd314583df970c7", func := "handshaker/handshakerlaw06.WritesOther", spec := "writesOther", inPlace := ["slices.overlaps[handshaker/api.Write]"], unfollowed := true, recurses := true, apart := false }
def WritesOtherSaid : Prop := writesOtherRow.holds Try.pinned (OpenSpec.ofChange writesOtherSpec)

/-- ITS FALSE NEIGHBOUR: 'it returns false'. Refute it at one input. -/
def writesOtherWrong : ChangeSpec := { name := "writesOther", fn := fun _ => fun
  | [d1, d2, d3] => { results := [.lit (.bool false)], args := [d1, d2, d3] }
  | _ => none }
def WritesOtherWrongFalsely : Prop := writesOtherRow.holds Try.pinned (OpenSpec.ofChange writesOtherWrong)

/- THE SECOND FORM. 'bulk': how many values and letters a reading holds, each counted each time it is reached (what is shared counts as often as it is met; a slice's spare places count too). A statement '..UptoSaid' is the law's where the arguments, and the package variables that the reading takes, are together of bulk at most 1048576: NARROWER than '..Said'. Prove '..Said' where nothing that the law and all that it calls make is longer than what came in: it says more and counts as full. Else prove '..UptoSaid'. A law counts once. -/
mutual
def uptoBulk {H : Type} : DataW H → Nat
  | .lit (.string bytes) => bytes.length + 1
  | .lit _ => 1
  | .nil => 1
  | .ptr d => uptoBulk d + 1
  | .slice elems spare => uptoBulkAll elems + uptoBulkAll spare + 1
  | .agg parts => uptoBulkAll parts + 1
  | .iface _ d => uptoBulk d + 1
  | .map entries => uptoBulkEntries entries + 1
  | .held _ => 1
def uptoBulkAll {H : Type} : List (DataW H) → Nat
  | [] => 0
  | d :: r => uptoBulk d + uptoBulkAll r
def uptoBulkEntries {H : Type} : List (Lit × DataW H) → Nat
  | [] => 0
  | x :: r => uptoBulkEntry x + uptoBulkEntries r
def uptoBulkEntry {H : Type} : Lit × DataW H → Nat
  | (.string bytes, d) => bytes.length + uptoBulk d + 1
  | (_, d) => uptoBulk d + 1
 end
def uptoSmall : (H : Type) → List (DataW H) → Bool := fun _ ds => decide (uptoBulkAll ds ≤ 1048576)
def OpenSpec.upto (s : _root_.Go.ChangeSpec) : _root_.Go.OpenSpec := { _root_.Go.OpenSpec.ofChange s with cond := some uptoSmall }

/-- 'handshakerlaw06.WritesTells', WHERE WHAT IT READS IS OF BULK AT MOST 1048576: true; the input reads as it did. -/
def writesTellsUptoRow : OpenClaim := { program := "ytjmilnfemjnhoaa", sum := "4a118059edf4e3cec401a8bf43785c7c3f8c6ce8463ff77c7bd314583df970c7", func := "handshaker/handshakerlaw06.WritesTells", spec := "writesTells", inPlace := ["slices.overlaps[handshaker/api.Write]"], unfollowed := true, recurses := true, apart := false, narrowed := true }
def WritesTellsUptoSaid : Prop := writesTellsUptoRow.holds Try.pinned (OpenSpec.upto writesTellsSpec)

/-- 'handshakerlaw06.WritesBack', WHERE WHAT IT READS IS OF BULK AT MOST 1048576: true; the input reads as it did. -/
def writesBackUptoRow : OpenClaim := { program := "ytjmilnfemjnhoaa", sum := "4a118059edf4e3cec401a8bf43785c7c3f8c6ce8463ff77c7bd314583df970c7", func := "handshaker/handshakerlaw06.WritesBack", spec := "writesBack", inPlace := ["slices.overlaps[handshaker/api.Write]"], unfollowed := true, recurses := true, apart := false, narrowed := true }
def WritesBackUptoSaid : Prop := writesBackUptoRow.holds Try.pinned (OpenSpec.upto writesBackSpec)

/-- 'handshakerlaw06.WritesLast', WHERE WHAT IT READS IS OF BULK AT MOST 1048576: true; the input reads as it did. -/
def writesLastUptoRow : OpenClaim := { program := "ytjmilnfemjnhoaa", sum := "4a118059edf4e3cec401a8bf43785c7c3f8c6ce8463ff77c7bd314583df970c7", func := "handshaker/handshakerlaw06.WritesLast", spec := "writesLast", inPlace := ["slices.overlaps[handshaker/api.Write]"], unfollowed := true, recurses := true, apart := false, narrowed := true }
def WritesLastUptoSaid : Prop := writesLastUptoRow.holds Try.pinned (OpenSpec.upto writesLastSpec)

/-- 'handshakerlaw06.WritesFills', WHERE WHAT IT READS IS OF BULK AT MOST 1048576: true; the input reads as it did. -/
def writesFillsUptoRow : OpenClaim := { program := "ytjmilnfemjnhoaa", sum := "4a118059edf4e3cec401a8bf43785c7c3f8c6ce8463ff77c7bd314583df970c7", func := "handshaker/handshakerlaw06.WritesFills", spec := "writesFills", inPlace := ["slices.overlaps[handshaker/api.Write]"], unfollowed := true, recurses := true, apart := false, narrowed := true }
def WritesFillsUptoSaid : Prop := writesFillsUptoRow.holds Try.pinned (OpenSpec.upto writesFillsSpec)

/-- 'handshakerlaw06.WritesKeeps', WHERE WHAT IT READS IS OF BULK AT MOST 1048576: true; the input reads as it did. -/
def writesKeepsUptoRow : OpenClaim := { program := "ytjmilnfemjnhoaa", sum := "4a118059edf4e3cec401a8bf43785c7c3f8c6ce8463ff77c7bd314583df970c7", func := "handshaker/handshakerlaw06.WritesKeeps", spec := "writesKeeps", inPlace := ["slices.overlaps[handshaker/api.Write]"], unfollowed := true, recurses := true, apart := false, narrowed := true }
def WritesKeepsUptoSaid : Prop := writesKeepsUptoRow.holds Try.pinned (OpenSpec.upto writesKeepsSpec)

/-- 'handshakerlaw06.WritesOther', WHERE WHAT IT READS IS OF BULK AT MOST 1048576: true; the input reads as it did. -/
def writesOtherUptoRow : OpenClaim := { program := "ytjmilnfemjnhoaa", sum := "4a118059edf4e3cec401a8bf43785c7c3f8c6ce8463ff77c7bd314583df970c7", func := "handshaker/handshakerlaw06.WritesOther", spec := "writesOther", inPlace := ["slices.overlaps[handshaker/api.Write]"], unfollowed := true, recurses := true, apart := false, narrowed := true }
def WritesOtherUptoSaid : Prop := writesOtherUptoRow.holds Try.pinned (OpenSpec.upto writesOtherSpec)

end Rows
end Go.Proofs.Ytjmilnfemjnhoaa
