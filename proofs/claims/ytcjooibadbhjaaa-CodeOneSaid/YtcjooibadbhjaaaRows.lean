/-
  No cell of these rows narrows 'for every input' (looked for: loops, veiled, ifaces, maps, wideKeys, modest, calm, conditions, laid).
  DERIVED. THE GIVEN ROWS OF THIS SEAT. 6 by the template 'for every input the law returns true; each argument reads behind the call as it read before'; 0 by the template 'total and deterministic' (their statements: YtcjooibadbhjaaaTotals.lean).
  GIVEN WITH THE SEED: the statements are not yours to turn. If you find one false, say at which input.
  Laid BY PROGRAM, IN A SANDBOX (cutbox-rows.mjs): the forced cells as the released guide's own fill.sh prints them over the translation 9dabce47a328481f… (all of the seat's roots in one cut). By AI agents, Wed Nov 11 2026. No macro, syntax, notation, axiom, sorry.
-/
import Derived.Test.YtcjooibadbhjaaaChecked
import GoSem.Claim
import GoSem.ClaimJoined
import GoSem.ClaimMapViews
import Derived.JoinedTies
import Derived.KernelRfl
namespace Go.Proofs.Ytcjooibadbhjaaa
/- THE CELL 'sum', in the pinned program and in every row, IS THE sha256 OF THE DUMP (.gsa) THAT YtcjooibadbhjaaaProg.lean LOADS. Nothing in Lean hashes anything: it is a label: what it is worth is what the hold of that sum in a sandbox is worth. -/
noncomputable def Try.pinned : Pinned := { name := "ytcjooibadbhjaaa", sum := "9dabce47a328481f0ea7d21f1bd9cd1bfd135a9ad93833aa0e6b204b789cfc1d", checked := Try.checked }
namespace Rows
def none {H : Type} : Left H := { results := [], args := [] }

/-- 'handshakerlaw08.CodeTells': WHATEVER THE INPUT: true; the input reads as it did. -/
def codeTellsSpec : ChangeSpec := { name := "codeTells", fn := fun _ => fun
  | [d] => { results := [.lit (.bool true)], args := [d] }
  | _ => none }
def codeTellsRow : OpenClaim := { program := "ytcjooibadbhjaaa", sum := "9dabce47a328481f0ea7d21f1bd9cd1bfd135a9ad93833aa0e6b204b789cfc1d", func := "handshaker/handshakerlaw08.CodeTells", spec := "codeTells", recurses := true, apart := false }
def CodeTellsSaid : Prop := codeTellsRow.holds Try.pinned (OpenSpec.ofChange codeTellsSpec)

/-- ITS FALSE NEIGHBOUR: 'it returns false'. Refute it at one input. -/
def codeTellsWrong : ChangeSpec := { name := "codeTells", fn := fun _ => fun
  | [d] => { results := [.lit (.bool false)], args := [d] }
  | _ => none }
def CodeTellsWrongFalsely : Prop := codeTellsRow.holds Try.pinned (OpenSpec.ofChange codeTellsWrong)

/-- 'handshakerlaw08.CodeEither': WHATEVER THE INPUT: true; the input reads as it did. -/
def codeEitherSpec : ChangeSpec := { name := "codeEither", fn := fun _ => fun
  | [d1, d2] => { results := [.lit (.bool true)], args := [d1, d2] }
  | _ => none }
def codeEitherRow : OpenClaim := { program := "ytcjooibadbhjaaa", sum := "9dabce47a328481f0ea7d21f1bd9cd1bfd135a9ad93833aa0e6b204b789cfc1d", func := "handshaker/handshakerlaw08.CodeEither", spec := "codeEither", recurses := true, apart := false }
def CodeEitherSaid : Prop := codeEitherRow.holds Try.pinned (OpenSpec.ofChange codeEitherSpec)

/-- ITS FALSE NEIGHBOUR: 'it returns false'. Refute it at one input. -/
def codeEitherWrong : ChangeSpec := { name := "codeEither", fn := fun _ => fun
  | [d1, d2] => { results := [.lit (.bool false)], args := [d1, d2] }
  | _ => none }
def CodeEitherWrongFalsely : Prop := codeEitherRow.holds Try.pinned (OpenSpec.ofChange codeEitherWrong)

/-- 'handshakerlaw08.CodeBehind': WHATEVER THE INPUT: true; the input reads as it did. -/
def codeBehindSpec : ChangeSpec := { name := "codeBehind", fn := fun _ => fun
  | [d1, d2] => { results := [.lit (.bool true)], args := [d1, d2] }
  | _ => none }
def codeBehindRow : OpenClaim := { program := "ytcjooibadbhjaaa", sum := "9dabce47a328481f0ea7d21f1bd9cd1bfd135a9ad93833aa0e6b204b789cfc1d", func := "handshaker/handshakerlaw08.CodeBehind", spec := "codeBehind", recurses := true, apart := false }
def CodeBehindSaid : Prop := codeBehindRow.holds Try.pinned (OpenSpec.ofChange codeBehindSpec)

/-- ITS FALSE NEIGHBOUR: 'it returns false'. Refute it at one input. -/
def codeBehindWrong : ChangeSpec := { name := "codeBehind", fn := fun _ => fun
  | [d1, d2] => { results := [.lit (.bool false)], args := [d1, d2] }
  | _ => none }
def CodeBehindWrongFalsely : Prop := codeBehindRow.holds Try.pinned (OpenSpec.ofChange codeBehindWrong)

/-- 'handshakerlaw08.CodeDeep': WHATEVER THE INPUT: true; the input reads as it did. -/
def codeDeepSpec : ChangeSpec := { name := "codeDeep", fn := fun _ => fun
  | [d] => { results := [.lit (.bool true)], args := [d] }
  | _ => none }
def codeDeepRow : OpenClaim := { program := "ytcjooibadbhjaaa", sum := "9dabce47a328481f0ea7d21f1bd9cd1bfd135a9ad93833aa0e6b204b789cfc1d", func := "handshaker/handshakerlaw08.CodeDeep", spec := "codeDeep", recurses := true, apart := false }
def CodeDeepSaid : Prop := codeDeepRow.holds Try.pinned (OpenSpec.ofChange codeDeepSpec)

/-- ITS FALSE NEIGHBOUR: 'it returns false'. Refute it at one input. -/
def codeDeepWrong : ChangeSpec := { name := "codeDeep", fn := fun _ => fun
  | [d] => { results := [.lit (.bool false)], args := [d] }
  | _ => none }
def CodeDeepWrongFalsely : Prop := codeDeepRow.holds Try.pinned (OpenSpec.ofChange codeDeepWrong)

/-- 'handshakerlaw08.CodeSkips': WHATEVER THE INPUT: true; the input reads as it did. -/
def codeSkipsSpec : ChangeSpec := { name := "codeSkips", fn := fun _ => fun
  | [d1, d2] => { results := [.lit (.bool true)], args := [d1, d2] }
  | _ => none }
def codeSkipsRow : OpenClaim := { program := "ytcjooibadbhjaaa", sum := "9dabce47a328481f0ea7d21f1bd9cd1bfd135a9ad93833aa0e6b204b789cfc1d", func := "handshaker/handshakerlaw08.CodeSkips", spec := "codeSkips", recurses := true, apart := false }
def CodeSkipsSaid : Prop := codeSkipsRow.holds Try.pinned (OpenSpec.ofChange codeSkipsSpec)

/-- ITS FALSE NEIGHBOUR: 'it returns false'. Refute it at one input. -/
def codeSkipsWrong : ChangeSpec := { name := "codeSkips", fn := fun _ => fun
  | [d1, d2] => { results := [.lit (.bool false)], args := [d1, d2] }
  | _ => none }
def CodeSkipsWrongFalsely : Prop := codeSkipsRow.holds Try.pinned (OpenSpec.ofChange codeSkipsWrong)

/-- 'handshakerlaw08.CodeOne': WHATEVER THE INPUT: true; the input reads as it did. -/
def codeOneSpec : ChangeSpec := { name := "codeOne", fn := fun _ => fun
  | [d] => { results := [.lit (.bool true)], args := [d] }
  | _ => none }
def codeOneRow : OpenClaim := { program := "ytcjooibadbhjaaa", sum := "9dabce47a328481f0ea7d21f1bd9cd1bfd135a9ad93833aa0e6b204b789cfc1d", func := "handshaker/handshakerlaw08.CodeOne", spec := "codeOne", recurses := true, apart := false }
def CodeOneSaid : Prop := codeOneRow.holds Try.pinned (OpenSpec.ofChange codeOneSpec)

/-- ITS FALSE NEIGHBOUR: 'it returns false'. Refute it at one input. -/
def codeOneWrong : ChangeSpec := { name := "codeOne", fn := fun _ => fun
  | [d] => { results := [.lit (.bool false)], args := [d] }
  | _ => none }
def CodeOneWrongFalsely : Prop := codeOneRow.holds Try.pinned (OpenSpec.ofChange codeOneWrong)

/- THE SECOND FORM. 'bulk': how many values and letters a reading holds, each counted each time it is reached (what is shared counts as often as it is met; a slice's spare places count too). A statement '..UptoSaid' is the law's where the arguments, and the package variables that the reading takes, are together of bulk at most 1048576: NARROWER than '..Said'. Prove '..Said' where nothing that the law and all that it calls make is longer than what came in: it says more and counts as full. Else prove '..UptoSaid'. A law counts once. -/
mutual
def uptoBulk {H : Type} : DataW H → Nat
  | .lit (.string bytes) => bytes.length + 1
  | .lit _ => 1
  | .nil => 1
  | .ptr d => uptoBulk d + 1
  | .slice elems spare => uptoBulkAll elems + uptoBulkAll spare + 1
  | .agg parts => uptoBulkAll parts + 1
  | .iface _ d => uptoBulk d + 1
  | .map entries => uptoBulkEntries entries + 1
  | .held _ => 1
def uptoBulkAll {H : Type} : List (DataW H) → Nat
  | [] => 0
  | d :: r => uptoBulk d + uptoBulkAll r
def uptoBulkEntries {H : Type} : List (Lit × DataW H) → Nat
  | [] => 0
  | x :: r => uptoBulkEntry x + uptoBulkEntries r
def uptoBulkEntry {H : Type} : Lit × DataW H → Nat
  | (.string bytes, d) => bytes.length + uptoBulk d + 1
  | (_, d) => uptoBulk d + 1
 end
def uptoSmall : (H : Type) → List (DataW H) → Bool := fun _ ds => decide (uptoBulkAll ds ≤ 1048576)
def OpenSpec.upto (s : _root_.Go.ChangeSpec) : _root_.Go.OpenSpec := { _root_.Go.OpenSpec.ofChange s with cond := some uptoSmall }

/-- 'handshakerlaw08.CodeTells', WHERE WHAT IT READS IS OF BULK AT MOST 1048576: true; the input reads as it did. -/
def codeTellsUptoRow : OpenClaim := { program := "ytcjooibadbhjaaa", sum := "9dabce47a328481f0ea7d21f1bd9cd1bfd135a9ad93833aa0e6b204b789cfc1d", func := "handshaker/handshakerlaw08.CodeTells", spec := "codeTells", recurses := true, apart := false, narrowed := true }
def CodeTellsUptoSaid : Prop := codeTellsUptoRow.holds Try.pinned (OpenSpec.upto codeTellsSpec)

/-- 'handshakerlaw08.CodeEither', WHERE WHAT IT READS IS OF BULK AT MOST 1048576: true; the input reads as it did. -/
def codeEitherUptoRow : OpenClaim := { program := "ytcjooibadbhjaaa", sum := "9dabce47a328481f0ea7d21f1bd9cd1bfd135a9ad93833aa0e6b204b789cfc1d", func := "handshaker/handshakerlaw08.CodeEither", spec := "codeEither", recurses := true, apart := false, narrowed := true }
def CodeEitherUptoSaid : Prop := codeEitherUptoRow.holds Try.pinned (OpenSpec.upto codeEitherSpec)

/-- 'handshakerlaw08.CodeBehind', WHERE WHAT IT READS IS OF BULK AT MOST 1048576: true; the input reads as it did. -/
def codeBehindUptoRow : OpenClaim := { program := "ytcjooibadbhjaaa", sum := "9dabce47a328481f0ea7d21f1bd9cd1bfd135a9ad93833aa0e6b204b789cfc1d", func := "handshaker/handshakerlaw08.CodeBehind", spec := "codeBehind", recurses := true, apart := false, narrowed := true }
def CodeBehindUptoSaid : Prop := codeBehindUptoRow.holds Try.pinned (OpenSpec.upto codeBehindSpec)

/-- 'handshakerlaw08.CodeDeep', WHERE WHAT IT READS IS OF BULK AT MOST 1048576: true; the input reads as it did. -/
def codeDeepUptoRow : OpenClaim := { program := "ytcjooibadbhjaaa", sum := "9dabce47a328481f0ea7d21f1bd9cd1bfd135a9ad93833aa0e6b204b789cfc1d", func := "handshaker/handshakerlaw08.CodeDeep", spec := "codeDeep", recurses := true, apart := false, narrowed := true }
def CodeDeepUptoSaid : Prop := codeDeepUptoRow.holds Try.pinned (OpenSpec.upto codeDeepSpec)

/-- 'handshakerlaw08.CodeSkips', WHERE WHAT IT READS IS OF BULK AT MOST 1048576: true; the input reads as it did. -/
def codeSkipsUptoRow : OpenClaim := { program := "ytcjooibadbhjaaa", sum := "9dabce47a328481f0ea7d21f1bd9cd1bfd135a9ad93833aa0e6b204b789cfc1d", func := "handshaker/handshakerlaw08.CodeSkips", spec := "codeSkips", recurses := true, apart := false, narrowed := true }
def CodeSkipsUptoSaid : Prop := codeSkipsUptoRow.holds Try.pinned (OpenSpec.upto codeSkipsSpec)

/-- 'handshakerlaw08.CodeOne', WHERE WHAT IT READS IS OF BULK AT MOST 1048576: true; the input reads as it did. -/
def codeOneUptoRow : OpenClaim := { program := "ytcjooibadbhjaaa", sum := "9dabce47a328481f0ea7d21f1bd9cd1bfd135a9ad93833aa0e6b204b789cfc1d", func := "handshaker/handshakerlaw08.CodeOne", spec := "codeOne", recurses := true, apart := false, narrowed := true }
def CodeOneUptoSaid : Prop := codeOneUptoRow.holds Try.pinned (OpenSpec.upto codeOneSpec)

end Rows
end Go.Proofs.Ytcjooibadbhjaaa
