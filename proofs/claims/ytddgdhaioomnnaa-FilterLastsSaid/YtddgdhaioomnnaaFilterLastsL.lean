/-
  PROVED: the law FilterLasts returns true for any sleeper, any cells and any writes (one of 40 cells and 20 operations, 64 cells and 40 writes at most are looked at). No further conditions.
-/
import Derived.Test.YtddgdhaioomnnaaFilterLastsR
namespace Go.Proofs.Ytddgdhaioomnnaa

theorem filterLasts_holds : Rows.FilterLastsSaid := filterLasts.over
end Go.Proofs.Ytddgdhaioomnnaa
