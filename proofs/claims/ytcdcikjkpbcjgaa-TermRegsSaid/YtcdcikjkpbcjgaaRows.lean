/-
  No cell of these rows narrows 'for every input' (looked for: loops, veiled, ifaces, maps, wideKeys, modest, calm, conditions, laid).
  DERIVED. THE GIVEN ROWS OF THIS SEAT. 6 by the template 'for every input the law returns true; each argument reads behind the call as it read before'; 0 by the template 'total and deterministic' (their statements: YtcdcikjkpbcjgaaTotals.lean).
  GIVEN WITH THE SEED: the statements are not yours to turn. If you find one false, say at which input.
  Laid BY PROGRAM, IN A SANDBOX (cutbox-rows.mjs): the forced cells as the released guide's own fill.sh prints them over the translation 1924e62496ea4d8b… (all of the seat's roots in one cut). By AI agents, Wed Nov 11 2026. No macro, syntax, notation, axiom, sorry.
-/
import Derived.Test.YtcdcikjkpbcjgaaChecked
import GoSem.Claim
import GoSem.ClaimJoined
import GoSem.ClaimMapViews
import Derived.JoinedTies
import Derived.KernelRfl
namespace Go.Proofs.Ytcdcikjkpbcjgaa
/- THE CELL 'sum', in the pinned program and in every row, IS THE sha256 OF THE DUMP (.gsa) THAT YtcdcikjkpbcjgaaProg.lean LOADS. Nothing in Lean hashes anything: it is a label: what it is worth is what the hold of that sum in a sandbox is worth. -/
noncomputable def Try.pinned : Pinned := { name := "ytcdcikjkpbcjgaa", sum := "1924e62496ea4d8be4a471fc23428821ee03ded84cf76f4738a155046b2c226f", checked := Try.checked }
namespace Rows
def none {H : Type} : Left H := { results := [], args := [] }

/-- 'handshakerlaw07.TermTells': WHATEVER THE INPUT: true; the input reads as it did. -/
def termTellsSpec : ChangeSpec := { name := "termTells", fn := fun _ => fun
  | [d1, d2, d3] => { results := [.lit (.bool true)], args := [d1, d2, d3] }
  | _ => none }
def termTellsRow : OpenClaim := { program := "ytcdcikjkpbcjgaa", sum := "1924e62496ea4d8be4a471fc23428821ee03ded84cf76f4738a155046b2c226f", func := "handshaker/handshakerlaw07.TermTells", spec := "termTells", recurses := true, apart := false }
def TermTellsSaid : Prop := termTellsRow.holds Try.pinned (OpenSpec.ofChange termTellsSpec)

/-- ITS FALSE NEIGHBOUR: 'it returns false'. Refute it at one input. -/
def termTellsWrong : ChangeSpec := { name := "termTells", fn := fun _ => fun
  | [d1, d2, d3] => { results := [.lit (.bool false)], args := [d1, d2, d3] }
  | _ => none }
def TermTellsWrongFalsely : Prop := termTellsRow.holds Try.pinned (OpenSpec.ofChange termTellsWrong)

/-- 'handshakerlaw07.TermNames': WHATEVER THE INPUT: true; the input reads as it did. -/
def termNamesSpec : ChangeSpec := { name := "termNames", fn := fun _ => fun
  | [d1, d2, d3, d4, d5] => { results := [.lit (.bool true)], args := [d1, d2, d3, d4, d5] }
  | _ => none }
def termNamesRow : OpenClaim := { program := "ytcdcikjkpbcjgaa", sum := "1924e62496ea4d8be4a471fc23428821ee03ded84cf76f4738a155046b2c226f", func := "handshaker/handshakerlaw07.TermNames", spec := "termNames", recurses := true, apart := false }
def TermNamesSaid : Prop := termNamesRow.holds Try.pinned (OpenSpec.ofChange termNamesSpec)

/-- ITS FALSE NEIGHBOUR: 'it returns false'. Refute it at one input. -/
def termNamesWrong : ChangeSpec := { name := "termNames", fn := fun _ => fun
  | [d1, d2, d3, d4, d5] => { results := [.lit (.bool false)], args := [d1, d2, d3, d4, d5] }
  | _ => none }
def TermNamesWrongFalsely : Prop := termNamesRow.holds Try.pinned (OpenSpec.ofChange termNamesWrong)

/-- 'handshakerlaw07.TermTwo': WHATEVER THE INPUT: true; the input reads as it did. -/
def termTwoSpec : ChangeSpec := { name := "termTwo", fn := fun _ => fun
  | [d1, d2, d3, d4] => { results := [.lit (.bool true)], args := [d1, d2, d3, d4] }
  | _ => none }
def termTwoRow : OpenClaim := { program := "ytcdcikjkpbcjgaa", sum := "1924e62496ea4d8be4a471fc23428821ee03ded84cf76f4738a155046b2c226f", func := "handshaker/handshakerlaw07.TermTwo", spec := "termTwo", recurses := true, apart := false }
def TermTwoSaid : Prop := termTwoRow.holds Try.pinned (OpenSpec.ofChange termTwoSpec)

/-- ITS FALSE NEIGHBOUR: 'it returns false'. Refute it at one input. -/
def termTwoWrong : ChangeSpec := { name := "termTwo", fn := fun _ => fun
  | [d1, d2, d3, d4] => { results := [.lit (.bool false)], args := [d1, d2, d3, d4] }
  | _ => none }
def TermTwoWrongFalsely : Prop := termTwoRow.holds Try.pinned (OpenSpec.ofChange termTwoWrong)

/-- 'handshakerlaw07.TermLong': WHATEVER THE INPUT: true; the input reads as it did. -/
def termLongSpec : ChangeSpec := { name := "termLong", fn := fun _ => fun
  | [d1, d2, d3] => { results := [.lit (.bool true)], args := [d1, d2, d3] }
  | _ => none }
def termLongRow : OpenClaim := { program := "ytcdcikjkpbcjgaa", sum := "1924e62496ea4d8be4a471fc23428821ee03ded84cf76f4738a155046b2c226f", func := "handshaker/handshakerlaw07.TermLong", spec := "termLong", recurses := true, apart := false }
def TermLongSaid : Prop := termLongRow.holds Try.pinned (OpenSpec.ofChange termLongSpec)

/-- ITS FALSE NEIGHBOUR: 'it returns false'. Refute it at one input. -/
def termLongWrong : ChangeSpec := { name := "termLong", fn := fun _ => fun
  | [d1, d2, d3] => { results := [.lit (.bool false)], args := [d1, d2, d3] }
  | _ => none }
def TermLongWrongFalsely : Prop := termLongRow.holds Try.pinned (OpenSpec.ofChange termLongWrong)

/-- 'handshakerlaw07.TermRegs': WHATEVER THE INPUT: true; the input reads as it did. -/
def termRegsSpec : ChangeSpec := { name := "termRegs", fn := fun _ => fun
  | [d1, d2, d3, d4, d5] => { results := [.lit (.bool true)], args := [d1, d2, d3, d4, d5] }
  | _ => none }
def termRegsRow : OpenClaim := { program := "ytcdcikjkpbcjgaa", sum := "1924e62496ea4d8be4a471fc23428821ee03ded84cf76f4738a155046b2c226f", func := "handshaker/handshakerlaw07.TermRegs", spec := "termRegs", recurses := true, apart := false }
def TermRegsSaid : Prop := termRegsRow.holds Try.pinned (OpenSpec.ofChange termRegsSpec)

/-- ITS FALSE NEIGHBOUR: 'it returns false'. Refute it at one input. -/
def termRegsWrong : ChangeSpec := { name := "termRegs", fn := fun _ => fun
  | [d1, d2, d3, d4, d5] => { results := [.lit (.bool false)], args := [d1, d2, d3, d4, d5] }
  | _ => none }
def TermRegsWrongFalsely : Prop := termRegsRow.holds Try.pinned (OpenSpec.ofChange termRegsWrong)

/-- 'handshakerlaw07.TermEqual': WHATEVER THE INPUT: true; the input reads as it did. -/
def termEqualSpec : ChangeSpec := { name := "termEqual", fn := fun _ => fun
  | [d1, d2, d3, d4] => { results := [.lit (.bool true)], args := [d1, d2, d3, d4] }
  | _ => none }
def termEqualRow : OpenClaim := { program := "ytcdcikjkpbcjgaa", sum := "1924e62496ea4d8be4a471fc23428821ee03ded84cf76f4738a155046b2c226f", func := "handshaker/handshakerlaw07.TermEqual", spec := "termEqual", recurses := true, apart := false }
def TermEqualSaid : Prop := termEqualRow.holds Try.pinned (OpenSpec.ofChange termEqualSpec)

/-- ITS FALSE NEIGHBOUR: 'it returns false'. Refute it at one input. -/
def termEqualWrong : ChangeSpec := { name := "termEqual", fn := fun _ => fun
  | [d1, d2, d3, d4] => { results := [.lit (.bool false)], args := [d1, d2, d3, d4] }
  | _ => none }
def TermEqualWrongFalsely : Prop := termEqualRow.holds Try.pinned (OpenSpec.ofChange termEqualWrong)

/- THE SECOND FORM. 'bulk': how many values and letters a reading holds, each counted each time it is reached (what is shared counts as often as it is met; a slice's spare places count too). A statement '..UptoSaid' is the law's where the arguments, and the package variables that the reading takes, are together of bulk at most 1048576: NARROWER than '..Said'. Prove '..Said' where nothing that the law and all that it calls make is longer than what came in: it says more and counts as full. Else prove '..UptoSaid'. A law counts once. -/
mutual
def uptoBulk {H : Type} : DataW H → Nat
  | .lit (.string bytes) => bytes.length + 1
  | .lit _ => 1
  | .nil => 1
  | .ptr d => uptoBulk d + 1
  | .slice elems spare => uptoBulkAll elems + uptoBulkAll spare + 1
  | .agg parts => uptoBulkAll parts + 1
  | .iface _ d => uptoBulk d + 1
  | .map entries => uptoBulkEntries entries + 1
  | .held _ => 1
def uptoBulkAll {H : Type} : List (DataW H) → Nat
  | [] => 0
  | d :: r => uptoBulk d + uptoBulkAll r
def uptoBulkEntries {H : Type} : List (Lit × DataW H) → Nat
  | [] => 0
  | x :: r => uptoBulkEntry x + uptoBulkEntries r
def uptoBulkEntry {H : Type} : Lit × DataW H → Nat
  | (.string bytes, d) => bytes.length + uptoBulk d + 1
  | (_, d) => uptoBulk d + 1
 end
def uptoSmall : (H : Type) → List (DataW H) → Bool := fun _ ds => decide (uptoBulkAll ds ≤ 1048576)
def OpenSpec.upto (s : _root_.Go.ChangeSpec) : _root_.Go.OpenSpec := { _root_.Go.OpenSpec.ofChange s with cond := some uptoSmall }

/-- 'handshakerlaw07.TermTells', WHERE WHAT IT READS IS OF BULK AT MOST 1048576: true; the input reads as it did. -/
def termTellsUptoRow : OpenClaim := { program := "ytcdcikjkpbcjgaa", sum := "1924e62496ea4d8be4a471fc23428821ee03ded84cf76f4738a155046b2c226f", func := "handshaker/handshakerlaw07.TermTells", spec := "termTells", recurses := true, apart := false, narrowed := true }
def TermTellsUptoSaid : Prop := termTellsUptoRow.holds Try.pinned (OpenSpec.upto termTellsSpec)

/-- 'handshakerlaw07.TermNames', WHERE WHAT IT READS IS OF BULK AT MOST 1048576: true; the input reads as it did. -/
def termNamesUptoRow : OpenClaim := { program := "ytcdcikjkpbcjgaa", sum := "1924e62496ea4d8be4a471fc23428821ee03ded84cf76f4738a155046b2c226f", func := "handshaker/handshakerlaw07.TermNames", spec := "termNames", recurses := true, apart := false, narrowed := true }
def TermNamesUptoSaid : Prop := termNamesUptoRow.holds Try.pinned (OpenSpec.upto termNamesSpec)

/-- 'handshakerlaw07.TermTwo', WHERE WHAT IT READS IS OF BULK AT MOST 1048576: true; the input reads as it did. -/
def termTwoUptoRow : OpenClaim := { program := "ytcdcikjkpbcjgaa", sum := "1924e62496ea4d8be4a471fc23428821ee03ded84cf76f4738a155046b2c226f", func := "handshaker/handshakerlaw07.TermTwo", spec := "termTwo", recurses := true, apart := false, narrowed := true }
def TermTwoUptoSaid : Prop := termTwoUptoRow.holds Try.pinned (OpenSpec.upto termTwoSpec)

/-- 'handshakerlaw07.TermLong', WHERE WHAT IT READS IS OF BULK AT MOST 1048576: true; the input reads as it did. -/
def termLongUptoRow : OpenClaim := { program := "ytcdcikjkpbcjgaa", sum := "1924e62496ea4d8be4a471fc23428821ee03ded84cf76f4738a155046b2c226f", func := "handshaker/handshakerlaw07.TermLong", spec := "termLong", recurses := true, apart := false, narrowed := true }
def TermLongUptoSaid : Prop := termLongUptoRow.holds Try.pinned (OpenSpec.upto termLongSpec)

/-- 'handshakerlaw07.TermRegs', WHERE WHAT IT READS IS OF BULK AT MOST 1048576: true; the input reads as it did. -/
def termRegsUptoRow : OpenClaim := { program := "ytcdcikjkpbcjgaa", sum := "1924e62496ea4d8be4a471fc23428821ee03ded84cf76f4738a155046b2c226f", func := "handshaker/handshakerlaw07.TermRegs", spec := "termRegs", recurses := true, apart := false, narrowed := true }
def TermRegsUptoSaid : Prop := termRegsUptoRow.holds Try.pinned (OpenSpec.upto termRegsSpec)

/-- 'handshakerlaw07.TermEqual', WHERE WHAT IT READS IS OF BULK AT MOST 1048576: true; the input reads as it did. -/
def termEqualUptoRow : OpenClaim := { program := "ytcdcikjkpbcjgaa", sum := "1924e62496ea4d8be4a471fc23428821ee03ded84cf76f4738a155046b2c226f", func := "handshaker/handshakerlaw07.TermEqual", spec := "termEqual", recurses := true, apart := false, narrowed := true }
def TermEqualUptoSaid : Prop := termEqualUptoRow.holds Try.pinned (OpenSpec.upto termEqualSpec)

end Rows
end Go.Proofs.Ytcdcikjkpbcjgaa
