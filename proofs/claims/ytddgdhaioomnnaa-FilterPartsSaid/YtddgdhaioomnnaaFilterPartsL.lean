/-
  PROVED: the law FilterParts returns true for any sleepers, any cells and any two lists of writes (at most 20 sleepers of 40 cells and 20 operations, 80 cells and 20 writes, each, are looked at). No further conditions.
-/
import Derived.Test.YtddgdhaioomnnaaFilterPartsR
namespace Go.Proofs.Ytddgdhaioomnnaa

theorem filterParts_holds : Rows.FilterPartsSaid := filterParts.over
end Go.Proofs.Ytddgdhaioomnnaa
