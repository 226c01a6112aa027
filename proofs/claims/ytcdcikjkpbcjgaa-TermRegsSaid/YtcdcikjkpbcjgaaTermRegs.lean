/-
  PROVED: the law TermRegs returns true for any operations, cells, registers, place and value (at most 12 operations, 64 cells and 8 registers are looked at). No further conditions.
-/
import Derived.Test.YtcdcikjkpbcjgaaTermRegsR
namespace Go.Proofs.Ytcdcikjkpbcjgaa

theorem termRegs_holds : Rows.TermRegsSaid := termRegs.over
end Go.Proofs.Ytcdcikjkpbcjgaa
