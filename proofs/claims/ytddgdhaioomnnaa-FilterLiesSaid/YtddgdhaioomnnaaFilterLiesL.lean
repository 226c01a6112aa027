/-
  PROVED: the law FilterLies returns true for any sleepers, any sleeper and any cells (at most 20 sleepers of 40 cells and 20 operations, and 80 cells, are looked at). No further conditions.
-/
import Derived.Test.YtddgdhaioomnnaaFilterLiesR
namespace Go.Proofs.Ytddgdhaioomnnaa

theorem filterLies_holds : Rows.FilterLiesSaid := filterLies.over
end Go.Proofs.Ytddgdhaioomnnaa
