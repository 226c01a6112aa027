/-
  No cell of these rows narrows 'for every input' (looked for: loops, veiled, ifaces, maps, wideKeys, modest, calm, conditions, laid).
  DERIVED. THE GIVEN ROWS OF THIS SEAT. 6 by the template 'for every input the law returns true; each argument reads behind the call as it read before'; 0 by the template 'total and deterministic' (their statements: YtilfkohckmknkaaTotals.lean).
  GIVEN WITH THE SEED: the statements are not yours to turn. If you find one false, say at which input.
  Laid BY PROGRAM, IN A SANDBOX (cutbox-rows.mjs): the forced cells as the released guide's own fill.sh prints them over the translation 6233583f27591583… (all of the seat's roots in one cut). By AI agents, Wed Nov 11 2026. No macro, syntax, notation, axiom, sorry.
-/
import Derived.Test.YtilfkohckmknkaaChecked
import GoSem.Claim
import GoSem.ClaimJoined
import GoSem.ClaimMapViews
import Derived.JoinedTies
import Derived.KernelRfl
namespace Go.Proofs.Ytilfkohckmknkaa
/- THE CELL 'sum', in the pinned program and in every row, IS THE sha256 OF THE DUMP (.gsa) THAT YtilfkohckmknkaaProg.lean LOADS. Nothing in Lean hashes anything: it is a label: what it is worth is what the hold of that sum in a sandbox is worth. -/
noncomputable def Try.pinned : Pinned := { name := "ytilfkohckmknkaa", sum := "6233583f2759158397d1cd16ec780765d21ab1e97f19326e727a3f8f495234d8", checked := Try.checked }
namespace Rows
def none {H : Type} : Left H := { results := [], args := [] }

/-- 'handshakerlaw09.ShapeWrites': WHATEVER THE INPUT: true; the input reads as it did. -/
def shapeWritesSpec : ChangeSpec := { name := "shapeWrites", fn := fun _ => fun
  | [d] => { results := [.lit (.bool true)], args := [d] }
  | _ => none }
def shapeWritesRow : OpenClaim := { program := "ytilfkohckmknkaa", sum := "6233583f2759158397d1cd16ec780765d21ab1e97f19326e727a3f8f495234d8", func := "handshaker/handshakerlaw09.ShapeWrites", spec := "shapeWrites", unfollowed := true, recurses := true, apart := false }
def ShapeWritesSaid : Prop := shapeWritesRow.holds Try.pinned (OpenSpec.ofChange shapeWritesSpec)

/-- ITS FALSE NEIGHBOUR: 'it returns false'. Refute it at one input. -/
def shapeWritesWrong : ChangeSpec := { name := "shapeWrites", fn := fun _ => fun
  | [d] => { results := [.lit (.bool false)], args := [d] }
  | _ => none }
def ShapeWritesWrongFalsely : Prop := shapeWritesRow.holds Try.pinned (OpenSpec.ofChange shapeWritesWrong)

/-- 'handshakerlaw09.ShapeReads': WHATEVER THE INPUT: true; the input reads as it did. -/
def shapeReadsSpec : ChangeSpec := { name := "shapeReads", fn := fun _ => fun
  | [d] => { results := [.lit (.bool true)], args := [d] }
  | _ => none }
def shapeReadsRow : OpenClaim := { program := "ytilfkohckmknkaa", sum := "6233583f2759158397d1cd16ec780765d21ab1e97f19326e727a3f8f495234d8", func := "handshaker/handshakerlaw09.ShapeReads", spec := "shapeReads", unfollowed := true, recurses := true, apart := false }
def ShapeReadsSaid : Prop := shapeReadsRow.holds Try.pinned (OpenSpec.ofChange shapeReadsSpec)

/-- ITS FALSE NEIGHBOUR: 'it returns false'. Refute it at one input. -/
def shapeReadsWrong : ChangeSpec := { name := "shapeReads", fn := fun _ => fun
  | [d] => { results := [.lit (.bool false)], args := [d] }
  | _ => none }
def ShapeReadsWrongFalsely : Prop := shapeReadsRow.holds Try.pinned (OpenSpec.ofChange shapeReadsWrong)

/-- 'handshakerlaw09.ShapeBack': WHATEVER THE INPUT: true; the input reads as it did. -/
def shapeBackSpec : ChangeSpec := { name := "shapeBack", fn := fun _ => fun
  | [d1, d2, d3] => { results := [.lit (.bool true)], args := [d1, d2, d3] }
  | _ => none }
def shapeBackRow : OpenClaim := { program := "ytilfkohckmknkaa", sum := "6233583f2759158397d1cd16ec780765d21ab1e97f19326e727a3f8f495234d8", func := "handshaker/handshakerlaw09.ShapeBack", spec := "shapeBack", unfollowed := true, recurses := true, apart := false }
def ShapeBackSaid : Prop := shapeBackRow.holds Try.pinned (OpenSpec.ofChange shapeBackSpec)

/-- ITS FALSE NEIGHBOUR: 'it returns false'. Refute it at one input. -/
def shapeBackWrong : ChangeSpec := { name := "shapeBack", fn := fun _ => fun
  | [d1, d2, d3] => { results := [.lit (.bool false)], args := [d1, d2, d3] }
  | _ => none }
def ShapeBackWrongFalsely : Prop := shapeBackRow.holds Try.pinned (OpenSpec.ofChange shapeBackWrong)

/-- 'handshakerlaw09.ShapeOnce': WHATEVER THE INPUT: true; the input reads as it did. -/
def shapeOnceSpec : ChangeSpec := { name := "shapeOnce", fn := fun _ => fun
  | [d] => { results := [.lit (.bool true)], args := [d] }
  | _ => none }
def shapeOnceRow : OpenClaim := { program := "ytilfkohckmknkaa", sum := "6233583f2759158397d1cd16ec780765d21ab1e97f19326e727a3f8f495234d8", func := "handshaker/handshakerlaw09.ShapeOnce", spec := "shapeOnce", unfollowed := true, recurses := true, apart := false }
def ShapeOnceSaid : Prop := shapeOnceRow.holds Try.pinned (OpenSpec.ofChange shapeOnceSpec)

/-- ITS FALSE NEIGHBOUR: 'it returns false'. Refute it at one input. -/
def shapeOnceWrong : ChangeSpec := { name := "shapeOnce", fn := fun _ => fun
  | [d] => { results := [.lit (.bool false)], args := [d] }
  | _ => none }
def ShapeOnceWrongFalsely : Prop := shapeOnceRow.holds Try.pinned (OpenSpec.ofChange shapeOnceWrong)

/-- 'handshakerlaw09.ShapeJoins': WHATEVER THE INPUT: true; the input reads as it did. -/
def shapeJoinsSpec : ChangeSpec := { name := "shapeJoins", fn := fun _ => fun
  | [d] => { results := [.lit (.bool true)], args := [d] }
  | _ => none }
def shapeJoinsRow : OpenClaim := { program := "ytilfkohckmknkaa", sum := "6233583f2759158397d1cd16ec780765d21ab1e97f19326e727a3f8f495234d8", func := "handshaker/handshakerlaw09.ShapeJoins", spec := "shapeJoins", unfollowed := true, recurses := true, apart := false }
def ShapeJoinsSaid : Prop := shapeJoinsRow.holds Try.pinned (OpenSpec.ofChange shapeJoinsSpec)

/-- ITS FALSE NEIGHBOUR: 'it returns false'. Refute it at one input. -/
def shapeJoinsWrong : ChangeSpec := { name := "shapeJoins", fn := fun _ => fun
  | [d] => { results := [.lit (.bool false)], args := [d] }
  | _ => none }
def ShapeJoinsWrongFalsely : Prop := shapeJoinsRow.holds Try.pinned (OpenSpec.ofChange shapeJoinsWrong)

/-- 'handshakerlaw09.ShapeSizes': WHATEVER THE INPUT: true; the input reads as it did. -/
def shapeSizesSpec : ChangeSpec := { name := "shapeSizes", fn := fun _ => fun
  | [d1, d2] => { results := [.lit (.bool true)], args := [d1, d2] }
  | _ => none }
def shapeSizesRow : OpenClaim := { program := "ytilfkohckmknkaa", sum := "6233583f2759158397d1cd16ec780765d21ab1e97f19326e727a3f8f495234d8", func := "handshaker/handshakerlaw09.ShapeSizes", spec := "shapeSizes", unfollowed := true, recurses := true, apart := false }
def ShapeSizesSaid : Prop := shapeSizesRow.holds Try.pinned (OpenSpec.ofChange shapeSizesSpec)

/-- ITS FALSE NEIGHBOUR: 'it returns false'. Refute it at one input. -/
def shapeSizesWrong : ChangeSpec := { name := "shapeSizes", fn := fun _ => fun
  | [d1, d2] => { results := [.lit (.bool false)], args := [d1, d2] }
  | _ => none }
def ShapeSizesWrongFalsely : Prop := shapeSizesRow.holds Try.pinned (OpenSpec.ofChange shapeSizesWrong)

/- THE SECOND FORM. 'bulk': how many values and letters a reading holds, each counted each time it is reached (what is shared counts as often as it is met; a slice's spare places count too). A statement '..UptoSaid' is the law's where the arguments, and the package variables that the reading takes, are together of bulk at most 1048576: NARROWER than '..Said'. Prove '..Said' where nothing that the law and all that it calls make is longer than what came in: it says more and counts as full. Else prove '..UptoSaid'. A law counts once. -/
mutual
def uptoBulk {H : Type} : DataW H → Nat
  | .lit (.string bytes) => bytes.length + 1
  | .lit _ => 1
  | .nil => 1
  | .ptr d => uptoBulk d + 1
  | .slice elems spare => uptoBulkAll elems + uptoBulkAll spare + 1
  | .agg parts => uptoBulkAll parts + 1
  | .iface _ d => uptoBulk d + 1
  | .map entries => uptoBulkEntries entries + 1
  | .held _ => 1
def uptoBulkAll {H : Type} : List (DataW H) → Nat
  | [] => 0
  | d :: r => uptoBulk d + uptoBulkAll r
def uptoBulkEntries {H : Type} : List (Lit × DataW H) → Nat
  | [] => 0
  | x :: r => uptoBulkEntry x + uptoBulkEntries r
def uptoBulkEntry {H : Type} : Lit × DataW H → Nat
  | (.string bytes, d) => bytes.length + uptoBulk d + 1
  | (_, d) => uptoBulk d + 1
 end
def uptoSmall : (H : Type) → List (DataW H) → Bool := fun _ ds => decide (uptoBulkAll ds ≤ 1048576)
def OpenSpec.upto (s : _root_.Go.ChangeSpec) : _root_.Go.OpenSpec := { _root_.Go.OpenSpec.ofChange s with cond := some uptoSmall }

/-- 'handshakerlaw09.ShapeWrites', WHERE WHAT IT READS IS OF BULK AT MOST 1048576: true; the input reads as it did. -/
def shapeWritesUptoRow : OpenClaim := { program := "ytilfkohckmknkaa", sum := "6233583f2759158397d1cd16ec780765d21ab1e97f19326e727a3f8f495234d8", func := "handshaker/handshakerlaw09.ShapeWrites", spec := "shapeWrites", unfollowed := true, recurses := true, apart := false, narrowed := true }
def ShapeWritesUptoSaid : Prop := shapeWritesUptoRow.holds Try.pinned (OpenSpec.upto shapeWritesSpec)

/-- 'handshakerlaw09.ShapeReads', WHERE WHAT IT READS IS OF BULK AT MOST 1048576: true; the input reads as it did. -/
def shapeReadsUptoRow : OpenClaim := { program := "ytilfkohckmknkaa", sum := "6233583f2759158397d1cd16ec780765d21ab1e97f19326e727a3f8f495234d8", func := "handshaker/handshakerlaw09.ShapeReads", spec := "shapeReads", unfollowed := true, recurses := true, apart := false, narrowed := true }
def ShapeReadsUptoSaid : Prop := shapeReadsUptoRow.holds Try.pinned (OpenSpec.upto shapeReadsSpec)

/-- 'handshakerlaw09.ShapeBack', WHERE WHAT IT READS IS OF BULK AT MOST 1048576: true; the input reads as it did. -/
def shapeBackUptoRow : OpenClaim := { program := "ytilfkohckmknkaa", sum := "6233583f2759158397d1cd16ec780765d21ab1e97f19326e727a3f8f495234d8", func := "handshaker/handshakerlaw09.ShapeBack", spec := "shapeBack", unfollowed := true, recurses := true, apart := false, narrowed := true }
def ShapeBackUptoSaid : Prop := shapeBackUptoRow.holds Try.pinned (OpenSpec.upto shapeBackSpec)

/-- 'handshakerlaw09.ShapeOnce', WHERE WHAT IT READS IS OF BULK AT MOST 1048576: true; the input reads as it did. -/
def shapeOnceUptoRow : OpenClaim := { program := "ytilfkohckmknkaa", sum := "6233583f2759158397d1cd16ec780765d21ab1e97f19326e727a3f8f495234d8", func := "handshaker/handshakerlaw09.ShapeOnce", spec := "shapeOnce", unfollowed := true, recurses := true, apart := false, narrowed := true }
def ShapeOnceUptoSaid : Prop := shapeOnceUptoRow.holds Try.pinned (OpenSpec.upto shapeOnceSpec)

/-- 'handshakerlaw09.ShapeJoins', WHERE WHAT IT READS IS OF BULK AT MOST 1048576: true; the input reads as it did. -/
def shapeJoinsUptoRow : OpenClaim := { program := "ytilfkohckmknkaa", sum := "6233583f2759158397d1cd16ec780765d21ab1e97f19326e727a3f8f495234d8", func := "handshaker/handshakerlaw09.ShapeJoins", spec := "shapeJoins", unfollowed := true, recurses := true, apart := false, narrowed := true }
def ShapeJoinsUptoSaid : Prop := shapeJoinsUptoRow.holds Try.pinned (OpenSpec.upto shapeJoinsSpec)

/-- 'handshakerlaw09.ShapeSizes', WHERE WHAT IT READS IS OF BULK AT MOST 1048576: true; the input reads as it did. -/
def shapeSizesUptoRow : OpenClaim := { program := "ytilfkohckmknkaa", sum := "6233583f2759158397d1cd16ec780765d21ab1e97f19326e727a3f8f495234d8", func := "handshaker/handshakerlaw09.ShapeSizes", spec := "shapeSizes", unfollowed := true, recurses := true, apart := false, narrowed := true }
def ShapeSizesUptoSaid : Prop := shapeSizesUptoRow.holds Try.pinned (OpenSpec.upto shapeSizesSpec)

end Rows
end Go.Proofs.Ytilfkohckmknkaa
