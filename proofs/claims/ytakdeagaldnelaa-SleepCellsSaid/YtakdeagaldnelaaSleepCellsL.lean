/-
  PROVED: the law SleepCells returns true for any sleepers and any number (at most 20 sleepers of 40 cells and 20 operations are looked at). No further conditions.
-/
import Derived.Test.YtakdeagaldnelaaSleepCellsR
namespace Go.Proofs.Ytakdeagaldnelaa

theorem sleepCells_holds : Rows.SleepCellsSaid := sleepCells.over
end Go.Proofs.Ytakdeagaldnelaa
