/-
  PROVED: the law TermNames returns true for any operations, cells, registers, place and value (at most 12 operations, 64 cells and 20 registers are looked at). No further conditions.
-/
import Derived.Test.YtcdcikjkpbcjgaaTermNamesR
namespace Go.Proofs.Ytcdcikjkpbcjgaa

theorem termNames_holds : Rows.TermNamesSaid := termNames.over
end Go.Proofs.Ytcdcikjkpbcjgaa
