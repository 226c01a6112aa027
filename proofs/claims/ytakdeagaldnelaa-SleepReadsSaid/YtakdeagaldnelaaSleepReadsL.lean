/-
  PROVED: the law SleepReads returns true for any reads and any number (at most 40 reads are looked at). No further conditions.
-/
import Derived.Test.YtakdeagaldnelaaSleepReadsR
namespace Go.Proofs.Ytakdeagaldnelaa

theorem sleepReads_holds : Rows.SleepReadsSaid := sleepReads.over
end Go.Proofs.Ytakdeagaldnelaa
