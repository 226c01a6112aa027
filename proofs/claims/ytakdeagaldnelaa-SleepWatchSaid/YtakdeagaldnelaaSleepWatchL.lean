/-
  PROVED: the law SleepWatch returns true for any reads and any number (at most 24 reads are looked at). No further conditions.
-/
import Derived.Test.YtakdeagaldnelaaSleepWatchR
namespace Go.Proofs.Ytakdeagaldnelaa

theorem sleepWatch_holds : Rows.SleepWatchSaid := sleepWatch.over
end Go.Proofs.Ytakdeagaldnelaa
