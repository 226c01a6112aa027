/-
  PROVED: the law FilterSure returns true for any sleepers, any cells and any writes (at most 20 sleepers of 40 cells and 20 operations, 80 cells and 40 writes are looked at). No further conditions.
-/
import Derived.Test.YtddgdhaioomnnaaFilterSureR
namespace Go.Proofs.Ytddgdhaioomnnaa

theorem filterSure_holds : Rows.FilterSureSaid := filterSure.over
end Go.Proofs.Ytddgdhaioomnnaa
