/-
  No cell of these rows narrows 'for every input' (looked for: loops, veiled, ifaces, maps, wideKeys, modest, calm, conditions, laid).
  DERIVED. THE GIVEN ROWS OF THIS SEAT. 6 by the template 'for every input the law returns true; each argument reads behind the call as it read before'; 0 by the template 'total and deterministic' (their statements: YtemfkjcfafenjaaTotals.lean).
  GIVEN WITH THE SEED: the statements are not yours to turn. If you find one false, say at which input.
  Laid BY PROGRAM, IN A SANDBOX (cutbox-rows.mjs): the forced cells as the released guide's own fill.sh prints them over the translation 25714a5adc61963a… (all of the seat's roots in one cut). By AI agents, Wed Nov 11 2026. No macro, syntax, notation, axiom, sorry.
-/
import Derived.Test.YtemfkjcfafenjaaChecked
import GoSem.Claim
import GoSem.ClaimJoined
import GoSem.ClaimMapViews
import Derived.JoinedTies
import Derived.KernelRfl
namespace Go.Proofs.Ytemfkjcfafenjaa
/- THE CELL 'sum', in the pinned program and in every row, IS THE sha256 OF THE DUMP (.gsa) THAT YtemfkjcfafenjaaProg.lean LOADS. Nothing in Lean hashes anything: it is a label: what it is worth is what the hold of that sum in a sandbox is worth. -/
noncomputable def Try.pinned : Pinned := { name := "ytemfkjcfafenjaa", sum := "25714a5adc61963a67d873aa4b44f3f53bf649d10452cb9d5e2fd6a380007f26", checked := Try.checked }
namespace Rows
def none {H : Type} : Left H := { results := [], args := [] }

/-- 'handshakerlaw05.ReadsTells': WHATEVER THE INPUT: true; the input reads as it did. -/
def readsTellsSpec : ChangeSpec := { name := "readsTells", fn := fun _ => fun
  | [d1, d2, d3] => { results := [.lit (.bool true)], args := [d1, d2, d3] }
  | _ => none }
def readsTellsRow : OpenClaim := { program := "ytemfkjcfafenjaa", sum := "25714a5adc61963a67d873aa4b44f3f53bf649d10452cb9d5e2fd6a380007f26", func := "handshaker/handshakerlaw05.ReadsTells", spec := "readsTells", recurses := true, apart := false }
def ReadsTellsSaid : Prop := readsTellsRow.holds Try.pinned (OpenSpec.ofChange readsTellsSpec)

/-- ITS FALSE NEIGHBOUR: 'it returns false'. Refute it at one input. -/
def readsTellsWrong : ChangeSpec := { name := "readsTells", fn := fun _ => fun
  | [d1, d2, d3] => { results := [.lit (.bool false)], args := [d1, d2, d3] }
  | _ => none }
def ReadsTellsWrongFalsely : Prop := readsTellsRow.holds Try.pinned (OpenSpec.ofChange readsTellsWrong)

/-- 'handshakerlaw05.ReadsValid': WHATEVER THE INPUT: true; the input reads as it did. -/
def readsValidSpec : ChangeSpec := { name := "readsValid", fn := fun _ => fun
  | [d1, d2, d3, d4] => { results := [.lit (.bool true)], args := [d1, d2, d3, d4] }
  | _ => none }
def readsValidRow : OpenClaim := { program := "ytemfkjcfafenjaa", sum := "25714a5adc61963a67d873aa4b44f3f53bf649d10452cb9d5e2fd6a380007f26", func := "handshaker/handshakerlaw05.ReadsValid", spec := "readsValid", recurses := true, apart := false }
def ReadsValidSaid : Prop := readsValidRow.holds Try.pinned (OpenSpec.ofChange readsValidSpec)

/-- ITS FALSE NEIGHBOUR: 'it returns false'. Refute it at one input. -/
def readsValidWrong : ChangeSpec := { name := "readsValid", fn := fun _ => fun
  | [d1, d2, d3, d4] => { results := [.lit (.bool false)], args := [d1, d2, d3, d4] }
  | _ => none }
def ReadsValidWrongFalsely : Prop := readsValidRow.holds Try.pinned (OpenSpec.ofChange readsValidWrong)

/-- 'handshakerlaw05.ReadsStay': WHATEVER THE INPUT: true; the input reads as it did. -/
def readsStaySpec : ChangeSpec := { name := "readsStay", fn := fun _ => fun
  | [d1, d2, d3, d4, d5, d6] => { results := [.lit (.bool true)], args := [d1, d2, d3, d4, d5, d6] }
  | _ => none }
def readsStayRow : OpenClaim := { program := "ytemfkjcfafenjaa", sum := "25714a5adc61963a67d873aa4b44f3f53bf649d10452cb9d5e2fd6a380007f26", func := "handshaker/handshakerlaw05.ReadsStay", spec := "readsStay", recurses := true, apart := false }
def ReadsStaySaid : Prop := readsStayRow.holds Try.pinned (OpenSpec.ofChange readsStaySpec)

/-- ITS FALSE NEIGHBOUR: 'it returns false'. Refute it at one input. -/
def readsStayWrong : ChangeSpec := { name := "readsStay", fn := fun _ => fun
  | [d1, d2, d3, d4, d5, d6] => { results := [.lit (.bool false)], args := [d1, d2, d3, d4, d5, d6] }
  | _ => none }
def ReadsStayWrongFalsely : Prop := readsStayRow.holds Try.pinned (OpenSpec.ofChange readsStayWrong)

/-- 'handshakerlaw05.ReadsFills': WHATEVER THE INPUT: true; the input reads as it did. -/
def readsFillsSpec : ChangeSpec := { name := "readsFills", fn := fun _ => fun
  | [d1, d2, d3] => { results := [.lit (.bool true)], args := [d1, d2, d3] }
  | _ => none }
def readsFillsRow : OpenClaim := { program := "ytemfkjcfafenjaa", sum := "25714a5adc61963a67d873aa4b44f3f53bf649d10452cb9d5e2fd6a380007f26", func := "handshaker/handshakerlaw05.ReadsFills", spec := "readsFills", recurses := true, apart := false }
def ReadsFillsSaid : Prop := readsFillsRow.holds Try.pinned (OpenSpec.ofChange readsFillsSpec)

/-- ITS FALSE NEIGHBOUR: 'it returns false'. Refute it at one input. -/
def readsFillsWrong : ChangeSpec := { name := "readsFills", fn := fun _ => fun
  | [d1, d2, d3] => { results := [.lit (.bool false)], args := [d1, d2, d3] }
  | _ => none }
def ReadsFillsWrongFalsely : Prop := readsFillsRow.holds Try.pinned (OpenSpec.ofChange readsFillsWrong)

/-- 'handshakerlaw05.ReadsParts': WHATEVER THE INPUT: true; the input reads as it did. -/
def readsPartsSpec : ChangeSpec := { name := "readsParts", fn := fun _ => fun
  | [d1, d2, d3, d4, d5, d6] => { results := [.lit (.bool true)], args := [d1, d2, d3, d4, d5, d6] }
  | _ => none }
def readsPartsRow : OpenClaim := { program := "ytemfkjcfafenjaa", sum := "25714a5adc61963a67d873aa4b44f3f53bf649d10452cb9d5e2fd6a380007f26", func := "handshaker/handshakerlaw05.ReadsParts", spec := "readsParts", recurses := true, apart := false }
def ReadsPartsSaid : Prop := readsPartsRow.holds Try.pinned (OpenSpec.ofChange readsPartsSpec)

/-- ITS FALSE NEIGHBOUR: 'it returns false'. Refute it at one input. -/
def readsPartsWrong : ChangeSpec := { name := "readsParts", fn := fun _ => fun
  | [d1, d2, d3, d4, d5, d6] => { results := [.lit (.bool false)], args := [d1, d2, d3, d4, d5, d6] }
  | _ => none }
def ReadsPartsWrongFalsely : Prop := readsPartsRow.holds Try.pinned (OpenSpec.ofChange readsPartsWrong)

/-- 'handshakerlaw05.ReadsAgain': WHATEVER THE INPUT: true; the input reads as it did. -/
def readsAgainSpec : ChangeSpec := { name := "readsAgain", fn := fun _ => fun
  | [d1, d2, d3] => { results := [.lit (.bool true)], args := [d1, d2, d3] }
  | _ => none }
def readsAgainRow : OpenClaim := { program := "ytemfkjcfafenjaa", sum := "25714a5adc61963a67d873aa4b44f3f53bf649d10452cb9d5e2fd6a380007f26", func := "handshaker/handshakerlaw05.ReadsAgain", spec := "readsAgain", recurses := true, apart := false }
def ReadsAgainSaid : Prop := readsAgainRow.holds Try.pinned (OpenSpec.ofChange readsAgainSpec)

/-- ITS FALSE NEIGHBOUR: 'it returns false'. Refute it at one input. -/
def readsAgainWrong : ChangeSpec := { name := "readsAgain", fn := fun _ => fun
  | [d1, d2, d3] => { results := [.lit (.bool false)], args := [d1, d2, d3] }
  | _ => none }
def ReadsAgainWrongFalsely : Prop := readsAgainRow.holds Try.pinned (OpenSpec.ofChange readsAgainWrong)

/- THE SECOND FORM. 'bulk': how many values and letters a reading holds, each counted each time it is reached (what is shared counts as often as it is met; a slice's spare places count too). A statement '..UptoSaid' is the law's where the arguments, and the package variables that the reading takes, are together of bulk at most 1048576: NARROWER than '..Said'. Prove '..Said' where nothing that the law and all that it calls make is longer than what came in: it says more and counts as full. Else prove '..UptoSaid'. A law counts once. -/
mutual
def uptoBulk {H : Type} : DataW H → Nat
  | .lit (.string bytes) => bytes.length + 1
  | .lit _ => 1
  | .nil => 1
  | .ptr d => uptoBulk d + 1
  | .slice elems spare => uptoBulkAll elems + uptoBulkAll spare + 1
  | .agg parts => uptoBulkAll parts + 1
  | .iface _ d => uptoBulk d + 1
  | .map entries => uptoBulkEntries entries + 1
  | .held _ => 1
def uptoBulkAll {H : Type} : List (DataW H) → Nat
  | [] => 0
  | d :: r => uptoBulk d + uptoBulkAll r
def uptoBulkEntries {H : Type} : List (Lit × DataW H) → Nat
  | [] => 0
  | x :: r => uptoBulkEntry x + uptoBulkEntries r
def uptoBulkEntry {H : Type} : Lit × DataW H → Nat
  | (.string bytes, d) => bytes.length + uptoBulk d + 1
  | (_, d) => uptoBulk d + 1
 end
def uptoSmall : (H : Type) → List (DataW H) → Bool := fun _ ds => decide (uptoBulkAll ds ≤ 1048576)
def OpenSpec.upto (s : _root_.Go.ChangeSpec) : _root_.Go.OpenSpec := { _root_.Go.OpenSpec.ofChange s with cond := some uptoSmall }

/-- 'handshakerlaw05.ReadsTells', WHERE WHAT IT READS IS OF BULK AT MOST 1048576: true; the input reads as it did. -/
def readsTellsUptoRow : OpenClaim := { program := "ytemfkjcfafenjaa", sum := "25714a5adc61963a67d873aa4b44f3f53bf649d10452cb9d5e2fd6a380007f26", func := "handshaker/handshakerlaw05.ReadsTells", spec := "readsTells", recurses := true, apart := false, narrowed := true }
def ReadsTellsUptoSaid : Prop := readsTellsUptoRow.holds Try.pinned (OpenSpec.upto readsTellsSpec)

/-- 'handshakerlaw05.ReadsValid', WHERE WHAT IT READS IS OF BULK AT MOST 1048576: true; the input reads as it did. -/
def readsValidUptoRow : OpenClaim := { program := "ytemfkjcfafenjaa", sum := "25714a5adc61963a67d873aa4b44f3f53bf649d10452cb9d5e2fd6a380007f26", func := "handshaker/handshakerlaw05.ReadsValid", spec := "readsValid", recurses := true, apart := false, narrowed := true }
def ReadsValidUptoSaid : Prop := readsValidUptoRow.holds Try.pinned (OpenSpec.upto readsValidSpec)

/-- 'handshakerlaw05.ReadsStay', WHERE WHAT IT READS IS OF BULK AT MOST 1048576: true; the input reads as it did. -/
def readsStayUptoRow : OpenClaim := { program := "ytemfkjcfafenjaa", sum := "25714a5adc61963a67d873aa4b44f3f53bf649d10452cb9d5e2fd6a380007f26", func := "handshaker/handshakerlaw05.ReadsStay", spec := "readsStay", recurses := true, apart := false, narrowed := true }
def ReadsStayUptoSaid : Prop := readsStayUptoRow.holds Try.pinned (OpenSpec.upto readsStaySpec)

/-- 'handshakerlaw05.ReadsFills', WHERE WHAT IT READS IS OF BULK AT MOST 1048576: true; the input reads as it did. -/
def readsFillsUptoRow : OpenClaim := { program := "ytemfkjcfafenjaa", sum := "25714a5adc61963a67d873aa4b44f3f53bf649d10452cb9d5e2fd6a380007f26", func := "handshaker/handshakerlaw05.ReadsFills", spec := "readsFills", recurses := true, apart := false, narrowed := true }
def ReadsFillsUptoSaid : Prop := readsFillsUptoRow.holds Try.pinned (OpenSpec.upto readsFillsSpec)

/-- 'handshakerlaw05.ReadsParts', WHERE WHAT IT READS IS OF BULK AT MOST 1048576: true; the input reads as it did. -/
def readsPartsUptoRow : OpenClaim := { program := "ytemfkjcfafenjaa", sum := "25714a5adc61963a67d873aa4b44f3f53bf649d10452cb9d5e2fd6a380007f26", func := "handshaker/handshakerlaw05.ReadsParts", spec := "readsParts", recurses := true, apart := false, narrowed := true }
def ReadsPartsUptoSaid : Prop := readsPartsUptoRow.holds Try.pinned (OpenSpec.upto readsPartsSpec)

/-- 'handshakerlaw05.ReadsAgain', WHERE WHAT IT READS IS OF BULK AT MOST 1048576: true; the input reads as it did. -/
def readsAgainUptoRow : OpenClaim := { program := "ytemfkjcfafenjaa", sum := "25714a5adc61963a67d873aa4b44f3f53bf649d10452cb9d5e2fd6a380007f26", func := "handshaker/handshakerlaw05.ReadsAgain", spec := "readsAgain", recurses := true, apart := false, narrowed := true }
def ReadsAgainUptoSaid : Prop := readsAgainUptoRow.holds Try.pinned (OpenSpec.upto readsAgainSpec)

end Rows
end Go.Proofs.Ytemfkjcfafenjaa
