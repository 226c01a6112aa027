/-
  PROVED: the law SleepTwice returns true for any sleepers and any sleeper (at most 20 sleepers of 40 cells and 20 operations are looked at). No further conditions.
-/
import Derived.Test.YtakdeagaldnelaaSleepTwiceR
namespace Go.Proofs.Ytakdeagaldnelaa

theorem sleepTwice_holds : Rows.SleepTwiceSaid := sleepTwice.over
end Go.Proofs.Ytakdeagaldnelaa
