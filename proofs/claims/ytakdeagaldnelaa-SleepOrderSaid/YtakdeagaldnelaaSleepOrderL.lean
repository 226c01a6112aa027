/-
  PROVED: the law SleepOrder returns true for any sleepers and any number (at most 20 sleepers of 40 cells and 20 operations are looked at). No further conditions.
-/
import Derived.Test.YtakdeagaldnelaaSleepOrderR
namespace Go.Proofs.Ytakdeagaldnelaa

theorem sleepOrder_holds : Rows.SleepOrderSaid := sleepOrder.over
end Go.Proofs.Ytakdeagaldnelaa
