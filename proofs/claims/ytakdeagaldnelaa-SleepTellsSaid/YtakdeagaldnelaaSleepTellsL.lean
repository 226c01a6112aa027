/-
  PROVED: the law SleepTells returns true for any sleepers, any sleeper and any numbers (at most 20 sleepers of 40 cells and 20 operations, and 20 numbers, each, are looked at). No further conditions.
-/
import Derived.Test.YtakdeagaldnelaaSleepTellsR
namespace Go.Proofs.Ytakdeagaldnelaa

theorem sleepTells_holds : Rows.SleepTellsSaid := sleepTells.over
end Go.Proofs.Ytakdeagaldnelaa
