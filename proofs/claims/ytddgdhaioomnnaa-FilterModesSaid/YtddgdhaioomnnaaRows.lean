/-
  No cell of these rows narrows 'for every input' (looked for: loops, veiled, ifaces, maps, wideKeys, modest, calm, conditions, laid).
  DERIVED. THE GIVEN ROWS OF THIS SEAT. 5 by the template 'for every input the law returns true; each argument reads behind the call as it read before'; 0 by the template 'total and deterministic' (their statements: YtddgdhaioomnnaaTotals.lean).
  GIVEN WITH THE SEED: the statements are not yours to turn. If you find one false, say at which input.
  Laid BY PROGRAM, IN A SANDBOX (cutbox-rows.mjs): the forced cells as the released guide's own fill.sh prints them over the translation 3b9459cb8eb7ac65… (all of the seat's roots in one cut). By AI agents, Wed Nov 11 2026. No macro, syntax, notation, axiom, sorry.
-/
import Derived.Test.YtddgdhaioomnnaaChecked
import GoSem.Claim
import GoSem.ClaimJoined
import GoSem.ClaimMapViews
import Derived.JoinedTies
import Derived.KernelRfl
namespace Go.Proofs.Ytddgdhaioomnnaa
/- THE CELL 'sum', in the pinned program and in every row, IS THE sha256 OF THE DUMP (.gsa) THAT YtddgdhaioomnnaaProg.lean LOADS. Nothing in Lean hashes anything: it is a label: what it is worth is what the hold of that sum in a sandbox is worth. -/
noncomputable def Try.pinned : Pinned := { name := "ytddgdhaioomnnaa", sum := "3b9459cb8eb7ac6518801037205787f711c193cb65f6dcb384b78c5ca31005b1", checked := Try.checked }
namespace Rows
def none {H : Type} : Left H := { results := [], args := [] }

/-- 'handshakerlaw16.FilterSure': WHATEVER THE INPUT: true; the input reads as it did. -/
def filterSureSpec : ChangeSpec := { name := "filterSure", fn := fun _ => fun
  | [d1, d2, d3] => { results := [.lit (.bool true)], args := [d1, d2, d3] }
  | _ => none }
def filterSureRow : OpenClaim := { program := "ytddgdhaioomnnaa", sum := "3b9459cb8eb7ac6518801037205787f711c193cb65f6dcb384b78c5ca31005b1", func := "handshaker/handshakerlaw16.FilterSure", spec := "filterSure", inPlace := ["slices.overlaps[handshaker/sleep.Sleeper]"], unfollowed := true, recurses := true, apart := false }
def FilterSureSaid : Prop := filterSureRow.holds Try.pinned (OpenSpec.ofChange filterSureSpec)

/-- ITS FALSE NEIGHBOUR: 'it returns false'. Refute it at one input. -/
def filterSureWrong : ChangeSpec := { name := "filterSure", fn := fun _ => fun
  | [d1, d2, d3] => { results := [.lit (.bool false)], args := [d1, d2, d3] }
  | _ => none }
def FilterSureWrongFalsely : Prop := filterSureRow.holds Try.pinned (OpenSpec.ofChange filterSureWrong)

/-- 'handshakerlaw16.FilterLasts': WHATEVER THE INPUT: true; the input reads as it did. -/
def filterLastsSpec : ChangeSpec := { name := "filterLasts", fn := fun _ => fun
  | [d1, d2, d3] => { results := [.lit (.bool true)], args := [d1, d2, d3] }
  | _ => none }
def filterLastsRow : OpenClaim := { program := "ytddgdhaioomnnaa", sum := "3b9459cb8eb7ac6518801037205787f711c193cb65f6dcb384b78c5ca31005b1", func := "handshaker/handshakerlaw16.FilterLasts", spec := "filterLasts", inPlace := ["slices.overlaps[handshaker/sleep.Sleeper]"], unfollowed := true, recurses := true, apart := false }
def FilterLastsSaid : Prop := filterLastsRow.holds Try.pinned (OpenSpec.ofChange filterLastsSpec)

/-- ITS FALSE NEIGHBOUR: 'it returns false'. Refute it at one input. -/
def filterLastsWrong : ChangeSpec := { name := "filterLasts", fn := fun _ => fun
  | [d1, d2, d3] => { results := [.lit (.bool false)], args := [d1, d2, d3] }
  | _ => none }
def FilterLastsWrongFalsely : Prop := filterLastsRow.holds Try.pinned (OpenSpec.ofChange filterLastsWrong)

/-- 'handshakerlaw16.FilterModes': WHATEVER THE INPUT: true; the input reads as it did. -/
def filterModesSpec : ChangeSpec := { name := "filterModes", fn := fun _ => fun
  | [d1, d2, d3, d4] => { results := [.lit (.bool true)], args := [d1, d2, d3, d4] }
  | _ => none }
def filterModesRow : OpenClaim := { program := "ytddgdhaioomnnaa", sum := "3b9459cb8eb7ac6518801037205787f711c193cb65f6dcb384b78c5ca31005b1", func := "handshaker/handshakerlaw16.FilterModes", spec := "filterModes", inPlace := ["slices.overlaps[handshaker/sleep.Sleeper]"], unfollowed := true, recurses := true, apart := false }
def FilterModesSaid : Prop := filterModesRow.holds Try.pinned (OpenSpec.ofChange filterModesSpec)

/-- ITS FALSE NEIGHBOUR: 'it returns false'. Refute it at one input. -/
def filterModesWrong : ChangeSpec := { name := "filterModes", fn := fun _ => fun
  | [d1, d2, d3, d4] => { results := [.lit (.bool false)], args := [d1, d2, d3, d4] }
  | _ => none }
def FilterModesWrongFalsely : Prop := filterModesRow.holds Try.pinned (OpenSpec.ofChange filterModesWrong)

/-- 'handshakerlaw16.FilterParts': WHATEVER THE INPUT: true; the input reads as it did. -/
def filterPartsSpec : ChangeSpec := { name := "filterParts", fn := fun _ => fun
  | [d1, d2, d3, d4] => { results := [.lit (.bool true)], args := [d1, d2, d3, d4] }
  | _ => none }
def filterPartsRow : OpenClaim := { program := "ytddgdhaioomnnaa", sum := "3b9459cb8eb7ac6518801037205787f711c193cb65f6dcb384b78c5ca31005b1", func := "handshaker/handshakerlaw16.FilterParts", spec := "filterParts", inPlace := ["slices.overlaps[handshaker/sleep.Sleeper]"], unfollowed := true, recurses := true, apart := false }
def FilterPartsSaid : Prop := filterPartsRow.holds Try.pinned (OpenSpec.ofChange filterPartsSpec)

/-- ITS FALSE NEIGHBOUR: 'it returns false'. Refute it at one input. -/
def filterPartsWrong : ChangeSpec := { name := "filterParts", fn := fun _ => fun
  | [d1, d2, d3, d4] => { results := [.lit (.bool false)], args := [d1, d2, d3, d4] }
  | _ => none }
def FilterPartsWrongFalsely : Prop := filterPartsRow.holds Try.pinned (OpenSpec.ofChange filterPartsWrong)

/-- 'handshakerlaw16.FilterLies': WHATEVER THE INPUT: true; the input reads as it did. -/
def filterLiesSpec : ChangeSpec := { name := "filterLies", fn := fun _ => fun
  | [d1, d2, d3] => { results := [.lit (.bool true)], args := [d1, d2, d3] }
  | _ => none }
def filterLiesRow : OpenClaim := { program := "ytddgdhaioomnnaa", sum := "3b9459cb8eb7ac6518801037205787f711c193cb65f6dcb384b78c5ca31005b1", func := "handshaker/handshakerlaw16.FilterLies", spec := "filterLies", inPlace := ["slices.overlaps[handshaker/sleep.Sleeper]"], unfollowed := true, recurses := true, apart := false }
def FilterLiesSaid : Prop := filterLiesRow.holds Try.pinned (OpenSpec.ofChange filterLiesSpec)

/-- ITS FALSE NEIGHBOUR: 'it returns false'. Refute it at one input. -/
def filterLiesWrong : ChangeSpec := { name := "filterLies", fn := fun _ => fun
  | [d1, d2, d3] => { results := [.lit (.bool false)], args := [d1, d2, d3] }
  | _ => none }
def FilterLiesWrongFalsely : Prop := filterLiesRow.holds Try.pinned (OpenSpec.ofChange filterLiesWrong)

/- THE SECOND FORM. 'bulk': how many values and letters a reading holds, each counted each time it is reached (what is shared counts as often as it is met; a slice's spare places count too). A statement '..UptoSaid' is the law's where the arguments, and the package variables that the reading takes, are together of bulk at most 1048576: NARROWER than '..Said'. Prove '..Said' where nothing that the law and all that it calls make is longer than what came in: it says more and counts as full. Else prove '..UptoSaid'. A law counts once. -/
mutual
def uptoBulk {H : Type} : DataW H → Nat
  | .lit (.string bytes) => bytes.length + 1
  | .lit _ => 1
  | .nil => 1
  | .ptr d => uptoBulk d + 1
  | .slice elems spare => uptoBulkAll elems + uptoBulkAll spare + 1
  | .agg parts => uptoBulkAll parts + 1
  | .iface _ d => uptoBulk d + 1
  | .map entries => uptoBulkEntries entries + 1
  | .held _ => 1
def uptoBulkAll {H : Type} : List (DataW H) → Nat
  | [] => 0
  | d :: r => uptoBulk d + uptoBulkAll r
def uptoBulkEntries {H : Type} : List (Lit × DataW H) → Nat
  | [] => 0
  | x :: r => uptoBulkEntry x + uptoBulkEntries r
def uptoBulkEntry {H : Type} : Lit × DataW H → Nat
  | (.string bytes, d) => bytes.length + uptoBulk d + 1
  | (_, d) => uptoBulk d + 1
 end
def uptoSmall : (H : Type) → List (DataW H) → Bool := fun _ ds => decide (uptoBulkAll ds ≤ 1048576)
def OpenSpec.upto (s : _root_.Go.ChangeSpec) : _root_.Go.OpenSpec := { _root_.Go.OpenSpec.ofChange s with cond := some uptoSmall }

/-- 'handshakerlaw16.FilterSure', WHERE WHAT IT READS IS OF BULK AT MOST 1048576: true; the input reads as it did. -/
def filterSureUptoRow : OpenClaim := { program := "ytddgdhaioomnnaa", sum := "3b9459cb8eb7ac6518801037205787f711c193cb65f6dcb384b78c5ca31005b1", func := "handshaker/handshakerlaw16.FilterSure", spec := "filterSure", inPlace := ["slices.overlaps[handshaker/sleep.Sleeper]"], unfollowed := true, recurses := true, apart := false, narrowed := true }
def FilterSureUptoSaid : Prop := filterSureUptoRow.holds Try.pinned (OpenSpec.upto filterSureSpec)

/-- 'handshakerlaw16.FilterLasts', WHERE WHAT IT READS IS OF BULK AT MOST 1048576: true; the input reads as it did. -/
def filterLastsUptoRow : OpenClaim := { program := "ytddgdhaioomnnaa", sum := "3b9459cb8eb7ac6518801037205787f711c193cb65f6dcb384b78c5ca31005b1", func := "handshaker/handshakerlaw16.FilterLasts", spec := "filterLasts", inPlace := ["slices.overlaps[handshaker/sleep.Sleeper]"], unfollowed := true, recurses := true, apart := false, narrowed := true }
def FilterLastsUptoSaid : Prop := filterLastsUptoRow.holds Try.pinned (OpenSpec.upto filterLastsSpec)

/-- 'handshakerlaw16.FilterModes', WHERE WHAT IT READS IS OF BULK AT MOST 1048576: true; the input reads as it did. -/
def filterModesUptoRow : OpenClaim := { program := "ytddgdhaioomnnaa", sum := "3b9459cb8eb7ac6518801037205787f711c193cb65f6dcb384b78c5ca31005b1", func := "handshaker/handshakerlaw16.FilterModes", spec := "filterModes", inPlace := ["slices.overlaps[handshaker/sleep.Sleeper]"], unfollowed := true, recurses := true, apart := false, narrowed := true }
def FilterModesUptoSaid : Prop := filterModesUptoRow.holds Try.pinned (OpenSpec.upto filterModesSpec)

/-- 'handshakerlaw16.FilterParts', WHERE WHAT IT READS IS OF BULK AT MOST 1048576: true; the input reads as it did. -/
def filterPartsUptoRow : OpenClaim := { program := "ytddgdhaioomnnaa", sum := "3b9459cb8eb7ac6518801037205787f711c193cb65f6dcb384b78c5ca31005b1", func := "handshaker/handshakerlaw16.FilterParts", spec := "filterParts", inPlace := ["slices.overlaps[handshaker/sleep.Sleeper]"], unfollowed := true, recurses := true, apart := false, narrowed := true }
def FilterPartsUptoSaid : Prop := filterPartsUptoRow.holds Try.pinned (OpenSpec.upto filterPartsSpec)

/-- 'handshakerlaw16.FilterLies', WHERE WHAT IT READS IS OF BULK AT MOST 1048576: true; the input reads as it did. -/
def filterLiesUptoRow : OpenClaim := { program := "ytddgdhaioomnnaa", sum := "3b9459cb8eb7ac6518801037205787f711c193cb65f6dcb384b78c5ca31005b1", func := "handshaker/handshakerlaw16.FilterLies", spec := "filterLies", inPlace := ["slices.overlaps[handshaker/sleep.Sleeper]"], unfollowed := true, recurses := true, apart := false, narrowed := true }
def FilterLiesUptoSaid : Prop := filterLiesUptoRow.holds Try.pinned (OpenSpec.upto filterLiesSpec)

end Rows
end Go.Proofs.Ytddgdhaioomnnaa
