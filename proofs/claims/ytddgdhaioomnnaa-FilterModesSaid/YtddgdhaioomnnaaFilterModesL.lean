/-
  PROVED: the law FilterModes returns true for any writes, any cells, any writes and any number (at most 24 writes watched, 64 cells and 40 writes are looked at). No further conditions.
-/
import Derived.Test.YtddgdhaioomnnaaFilterModesR
namespace Go.Proofs.Ytddgdhaioomnnaa

theorem filterModes_holds : Rows.FilterModesSaid := filterModes.over
end Go.Proofs.Ytddgdhaioomnnaa
